/-
  What is proved here: what the methods of puny's place and bias do to the cells of the struct that they are parts of.
-/
import Derived.Test.YtockmkcoehepiaaDoorZ2
import Derived.Deep.RegionHeld3
import Derived.BigQuiet
import Derived.Deep.QuietTactic
namespace Go.Proofs.YtockmkcoehepiaaDoor
open Go.RowKit

/-- the block B alone has turned -/
def On (B : Nat) (w w' : World) : Prop := w.grownBy w' (some B)
theorem On.refl (B : Nat) (w : World) : On B w w := World.grownBy.refl _ _
theorem On.trans {B : Nat} {a b c : World} (h : On B a b) (k : On B b c) : On B a c := ⟨k.os.trans h.os, k.tape.trans h.tape, k.output.trans h.output, Nat.le_trans h.size k.size, fun i hi hne => (k.block i (Nat.lt_of_lt_of_le hi h.size) hne).trans (h.block i hi hne)⟩
theorem On.drew {B : Nat} {a b : World} (h : On B a b) : On B a b.drew := ⟨h.os, h.tape, h.output, h.size, h.block⟩
theorem On.set {B : Nat} {a b : World} (h : On B a b) (o : Nat) (u : Value) : On B a (b.setCell ⟨B, o, none⟩ u) :=
  ⟨h.os, h.tape, h.output, by rw [World.size_setCell]; exact h.size, fun i hi hne => by rw [Below.heap_setCell _ _ _ _ (fun e => hne (by rw [e]))]; exact h.block i hi hne⟩
theorem On.below {B : Nat} {a b : World} (h : On B a b) (hB : B ≤ a.heap.size) : Below B a b := ⟨h.os, h.tape, h.output, h.size, fun k hk => h.block k (by omega) (fun e => by have := Option.some.inj e; omega)⟩
/-- what was made behind the block changes nothing else -/
theorem On.grown {B : Nat} {a b c : World} (h : On B a b) (hb : Below b.heap.size b c) : On B a c := ⟨hb.os.trans h.os, hb.tape.trans h.tape, hb.output.trans h.output, Nat.le_trans h.size hb.size, fun k hk hne => (hb.block k (Nat.lt_of_lt_of_le hk h.size)).trans (h.block k hk hne)⟩
theorem On.blk {B B' : Nat} {T : TypeId} {xs : List Value} {w w' : World} (h : On B w w') (hk : Blk w B' T xs) (hne : B' ≠ B) : Blk w' B' T xs := hk.other h hne
set_option maxHeartbeats 1000000 in
theorem upTo_any (B : Nat) (r i many r' i' : Int) (w : World) (c2 : w.cell? ⟨B, 2, none⟩ = some (.int .i64 r)) (c3 : w.cell? ⟨B, 3, none⟩ = some (.int .i64 i)) (c4 : w.cell? ⟨B, 4, none⟩ = some (.int .i64 many)) (hr : 0 ≤ r ∧ r ≤ 1114111) (hi : 0 ≤ i ∧ i ≤ 200) (hm : 0 ≤ many ∧ many ≤ 200) (hr' : 0 ≤ r' ∧ r' ≤ 1114111) (hi' : 0 ≤ i' ∧ i' ≤ 200) :
    Calls Tryd.prog 102 #[.pointer (some ⟨B, 2, none⟩), .int .i64 r', .int .i64 i'] w fun e w' => e = .returned (.int .i64 ((r' - r) * (many + 1) + i' - i)) ∧ ∃ n, w' = w.drewN n := by
  obtain ⟨hr0, hr1⟩ := hr
  obtain ⟨hi0, hi1⟩ := hi
  obtain ⟨hm0, hm1⟩ := hm
  obtain ⟨hr2, hr3⟩ := hr'
  obtain ⟨hi2, hi3⟩ := hi'
  have b1 : (r' - r) * (many + 1) ≤ 1114111 * 201 := by
    have e1 : (r' - r) * (many + 1) ≤ 1114111 * (many + 1) := Int.mul_le_mul_of_nonneg_right (by omega) (by omega)
    omega
  have b2 : -(1114111 * 201) ≤ (r' - r) * (many + 1) := by
    have e1 : (-1114111) * (many + 1) ≤ (r' - r) * (many + 1) := Int.mul_le_mul_of_nonneg_right (by omega) (by omega)
    omega
  go_enter Tryd.func102, Tryd.ntmps102
  go_wp2
  go_quiet (fail)
  go_wp2
  go_ret
  exact ⟨rfl, _, rfl⟩
section
variable (B : Nat) (T : TypeId) (x0 x1 : Value) (r i many : Int) (tl : List Value)
set_option maxHeartbeats 1000000 in
theorem goOn_any (d : Int) (w : World) (h : Blk w B T (x0 :: x1 :: .int .i64 r :: .int .i64 i :: .int .i64 many :: tl)) (hr : 0 ≤ r ∧ r ≤ 1114111) (hi : 0 ≤ i ∧ i ≤ 200) (hm : 0 ≤ many ∧ many ≤ 200) (hd : 0 ≤ d ∧ d ≤ 2147483647) :
    Calls Tryd.prog 103 #[.pointer (some ⟨B, 2, none⟩), .int .i64 d] w fun e w' => e = .returned (.tuple #[]) ∧ Blk w' B T (x0 :: x1 :: .int .i64 (r + (d + i) / (many + 1)) :: .int .i64 ((d + i) % (many + 1)) :: .int .i64 many :: tl) ∧ On B w w' := by
  have c2 := h.cell 2 rfl
  have c3 := h.cell 3 rfl
  have c4 := h.cell 4 rfl
  have f2 := h.free 2
  have f3 := h.free 3
  obtain ⟨hr0, hr1⟩ := hr
  obtain ⟨hi0, hi1⟩ := hi
  obtain ⟨hm0, hm1⟩ := hm
  obtain ⟨hd0, hd1⟩ := hd
  have q0 : 0 ≤ (d + i) / (many + 1) := Int.ediv_nonneg (by omega) (by omega)
  have q1 : (d + i) / (many + 1) ≤ d + i := Int.ediv_le_self _ (by omega)
  have H := Hid.mk' h
  clear h
  go_enter Tryd.func103, Tryd.ntmps103
  go_wp2
  go_region
  have c3' : (w.setCell ⟨B, 2, none⟩ (.int .i64 (r + (d + i) / (many + 1)))).cell? ⟨B, 3, none⟩ = some (.int .i64 i) := (H.out.set 2 _).cell 3 rfl
  have c4' : (w.setCell ⟨B, 2, none⟩ (.int .i64 (r + (d + i) / (many + 1)))).cell? ⟨B, 4, none⟩ = some (.int .i64 many) := (H.out.set 2 _).cell 4 rfl
  have f3' : (w.setCell ⟨B, 2, none⟩ (.int .i64 (r + (d + i) / (many + 1)))).frozen? ⟨B, 3, none⟩ = false := (H.out.set 2 _).free 3
  go_wp2
  go_end0
  exact ⟨rfl, (((H.out.set 2 _).drew).set 3 _), (((On.refl _ _).set 2 _).drew).set 3 _⟩
set_option maxHeartbeats 1000000 in
theorem fill_any (w : World) (h : Blk w B T (x0 :: x1 :: .int .i64 r :: .int .i64 i :: .int .i64 many :: tl)) (hi : 0 ≤ i ∧ i ≤ 200) (hm : 0 ≤ many ∧ many ≤ 200) :
    Calls Tryd.prog 104 #[.pointer (some ⟨B, 2, none⟩)] w fun e w' => e = .returned (.tuple #[]) ∧ Blk w' B T (x0 :: x1 :: .int .i64 r :: .int .i64 (i + 1) :: .int .i64 (many + 1) :: tl) ∧ On B w w' := by
  have c3 := h.cell 3 rfl
  have c4 := h.cell 4 rfl
  have f3 := h.free 3
  have f4 := h.free 4
  obtain ⟨hi0, hi1⟩ := hi
  obtain ⟨hm0, hm1⟩ := hm
  have H := Hid.mk' h
  clear h
  go_enter Tryd.func104, Tryd.ntmps104
  go_wp2
  go_end0
  exact ⟨rfl, (H.out.set 4 _).set 3 _, ((On.refl _ _).set 4 _).set 3 _⟩
set_option maxHeartbeats 1000000 in
theorem adapt_any (bias : Int) (later : Bool) (tl : List Value) (d many : Int) (w : World) (h : Blk w B T (.int .i64 bias :: .bool later :: tl)) (hd : 0 ≤ d ∧ d ≤ 2147483647) (hm : 1 ≤ many ∧ many ≤ 2147483647) :
    Calls Tryd.prog 105 #[.pointer (some ⟨B, 0, none⟩), .int .i64 d, .int .i64 many] w fun e w' => e = .returned (.tuple #[]) ∧ Blk w' B T (.int .i64 (biasM d many (!later)) :: .bool true :: tl) ∧ On B w w' := by
  have c0 := h.cell 0 rfl
  have c1 := h.cell 1 rfl
  have f0 := h.free 0
  have f1 := h.free 1
  have HB := Hid.mk' (bias_any d many (!later) w)
  rw [numC_in hd.1 hd.2, manyC_in hm.1 hm.2] at HB
  have H := Hid.mk' h
  clear h hd hm
  generalize biasM d many (!later) = bb at *
  go_enter Tryd.func105, Tryd.ntmps105
  go_wp2_with fail
  refine HB.out.mono ?_
  rintro e w1 ⟨rfl, rfl⟩
  go_wp2
  go_end0
  exact ⟨rfl, (H.out.set 0 _).set 1 _, ((On.refl _ _).set 0 _).set 1 _⟩
set_option maxHeartbeats 1000000 in
theorem begin_any (m : Int) (w : World) (h : Blk w B T (x0 :: x1 :: .int .i64 r :: .int .i64 i :: .int .i64 many :: tl)) :
    Calls Tryd.prog 98 #[.pointer (some ⟨B, 2, none⟩), .int .i64 m] w fun e w' => e = .returned (.tuple #[]) ∧ Blk w' B T (x0 :: x1 :: .int .i64 128 :: .int .i64 0 :: .int .i64 m :: tl) ∧ On B w w' := by
  have c2 := h.cell 2 rfl
  have c3 := h.cell 3 rfl
  have c4 := h.cell 4 rfl
  have f2 := h.free 2
  have f3 := h.free 3
  have f4 := h.free 4
  have H := Hid.mk' h
  clear h
  go_enter Tryd.func98, Tryd.ntmps98
  go_wp2
  go_end0
  exact ⟨rfl, ((H.out.set 2 _).set 3 _).set 4 _, (((On.refl _ _).set 2 _).set 3 _).set 4 _⟩
end
end Go.Proofs.YtockmkcoehepiaaDoor

/-
  What is proved here: what jsonval.isFormed and faultOf answer.
-/
import Derived.Test.YtjjoedkigjekcaaGreatDoorK2
import Derived.Test.YtjjoedkigjekcaaGreatDoorK4
namespace Go.Proofs.YtjjoedkigjekcaaGreatDoor
open Go.RowKit

/-- is a value of its kind's form? -/
def formB (k : Int) (s : List UInt8) (la lb : Nat) : Bool := decide (¬ ((k ≠ 3 ∧ k ≠ 4 ∧ s ≠ []) ∨ (k ≠ 5 ∧ 0 < la) ∨ (k ≠ 6 ∧ 0 < lb) ∨ (k = 3 ∧ writtenM s = false)))
theorem nat_cases (n : Nat) : n = 0 ∨ (0 < n ∧ ((n : Int) == 0) = false ∧ (n == 0) = false) := by
  rcases Nat.eq_zero_or_pos n with h | h
  · exact .inl h
  · refine .inr ⟨h, ?_, ?_⟩
    · rw [beq_eq_false_iff_ne]; omega
    · rw [beq_eq_false_iff_ne]; omega
theorem text_cases (s : List UInt8) : (s = [] ∧ (strL s).toList.isEmpty = true) ∨ (s ≠ [] ∧ (strL s).toList.isEmpty = false) := by
  rw [empty_test]
  cases s with
  | nil => exact .inl ⟨rfl, rfl⟩
  | cons b t => exact .inr ⟨by simp, rfl⟩
set_option maxRecDepth 20000 in
set_option maxHeartbeats 4000000 in
theorem isFormed_plain (k : Int) (hk3 : k ≠ 3) (s : List UInt8) (a : Option Addr) (la ca : Nat) (b : Option Addr) (lb cb : Nat) (w : World) :
    Calls Tryz.prog 72 #[.agg #[.int .i64 k, .string (strL s), .slice a la ca, .slice b lb cb]] w fun e w' => e = .returned (.bool (formB k s la lb)) ∧ Below w.heap.size w w' := by
  obtain ⟨z, hz⟩ : ∃ z, formB k s la lb = z := ⟨_, rfl⟩
  rw [hz]
  unfold formB at hz
  have hB : ∀ c, Below w.heap.size w (w.alloc (.cells c 25)) := fun c => (Below.refl _ w).alloc (Nat.le_refl _) _
  have hk : (k = 4) ∨ (k = 5) ∨ (k = 6) ∨ (k ≠ 4 ∧ k ≠ 5 ∧ k ≠ 6 ∧ (k == 3) = false ∧ (k == 4) = false ∧ (k == 5) = false ∧ (k == 6) = false) := by
    by_cases h4 : k = 4
    · exact .inl h4
    by_cases h5 : k = 5
    · exact .inr (.inl h5)
    by_cases h6 : k = 6
    · exact .inr (.inr (.inl h6))
    exact .inr (.inr (.inr ⟨h4, h5, h6, by simpa using hk3, by simpa using h4, by simpa using h5, by simpa using h6⟩))
  rcases text_cases s with ⟨rfl, hs⟩ | ⟨hs0, hs⟩ <;> rcases nat_cases la with rfl | ⟨hla, ha1, ha2⟩ <;> rcases nat_cases lb with rfl | ⟨hlb, hb1, hb2⟩ <;> rcases hk with rfl | rfl | rfl | ⟨h4, h5, h6, g3, g4, g5, g6⟩
  all_goals
    have HZ := Hid.mk' hz
    have HK := Hid.mk' hk3
    clear hz hk3
    generalize strL _ = S at *
    go_enter Tryz.func72, Tryz.ntmps72
    go_wp2
    go_ret
    refine ⟨ret_bool ?_, hB _⟩
    rw [← HZ.out]
    have hk3 := HK.out
    simp [*]
    try omega
set_option maxRecDepth 20000 in
set_option maxHeartbeats 4000000 in
theorem isFormed_num (s : List UInt8) (a : Option Addr) (la ca : Nat) (b : Option Addr) (lb cb : Nat) (w : World) :
    Calls Tryz.prog 72 #[.agg #[.int .i64 3, .string (strL s), .slice a la ca, .slice b lb cb]] w fun e w' => e = .returned (.bool (formB 3 s la lb)) ∧ Below w.heap.size w w' := by
  obtain ⟨z, hz⟩ : ∃ z, formB 3 s la lb = z := ⟨_, rfl⟩
  rw [hz]
  unfold formB at hz
  have hb0 : Below w.heap.size w (w.alloc (.cells #[.int .i64 3, .string (strL s), .slice a la ca, .slice b lb cb] 25)) := (Below.refl _ w).alloc (Nat.le_refl _) _
  have HW := Hid.mk' (written12_any s (w.alloc (.cells #[.int .i64 3, .string (strL s), .slice a la ca, .slice b lb cb] 25)))
  have HZ := Hid.mk' hz
  have HF : Hid (∀ W : World, Below (w.alloc (.cells #[.int .i64 3, .string (strL s), .slice a la ca, .slice b lb cb] 25)).heap.size (w.alloc (.cells #[.int .i64 3, .string (strL s), .slice a la ca, .slice b lb cb] 25)) W → (W.cell? ⟨w.heap.size, 1, none⟩ = some (.string (strL s)) ∧ W.cell? ⟨w.heap.size, 2, none⟩ = some (.slice a la ca) ∧ W.cell? ⟨w.heap.size, 3, none⟩ = some (.slice b lb cb)) ∧ W.frozen? ⟨w.heap.size, 1, none⟩ = false) := fun W hb => by
    have hlt : w.heap.size < (w.alloc (.cells #[.int .i64 3, .string (strL s), .slice a la ca, .slice b lb cb] 25)).heap.size := by simp
    have e := hb.block w.heap.size hlt
    have hn : ∀ i, W.cell? ⟨w.heap.size, i, none⟩ = #[Value.int .i64 3, .string (strL s), .slice a la ca, .slice b lb cb][i]? := fun i => by
      rw [World.cell?_of_block (w := w.alloc (.cells #[.int .i64 3, .string (strL s), .slice a la ca, .slice b lb cb] 25)) (a := ⟨w.heap.size, i, none⟩) e, World.cell?_alloc_new]
    refine ⟨⟨hn 1, hn 2, hn 3⟩, ?_⟩
    rw [World.frozen?_of_block (w := w.alloc (.cells #[.int .i64 3, .string (strL s), .slice a la ca, .slice b lb cb] 25)) (a := ⟨w.heap.size, 1, none⟩) e]
    simp
  have HB : Hid (∀ W : World, Below (w.alloc (.cells #[.int .i64 3, .string (strL s), .slice a la ca, .slice b lb cb] 25)).heap.size (w.alloc (.cells #[.int .i64 3, .string (strL s), .slice a la ca, .slice b lb cb] 25)) W → Below w.heap.size w W) := fun W hb => hb0.trans (hb.mono hb0.size)
  generalize strL s = S at *
  clear hz hb0
  cases hw : writtenM s with
  | false =>
    rw [hw] at HW
    have hz : z = false := by
      rw [← HZ.out]
      simp [hw]
    subst hz
    clear HZ hw
    go_enter Tryz.func72, Tryz.ntmps72
    go_wp2_with fail
    refine HW.out.mono ?_
    rintro e w1 ⟨rfl, hb1⟩
    have hfin := HB.out _ hb1
    clear HW HF HB hb1
    go_wp2
    go_ret
    exact ⟨rfl, hfin⟩
  | true =>
    rw [hw] at HW
    have HZ2 : Hid (decide (¬ (0 < la ∨ 0 < lb)) = z) := by
      show _ = _
      rw [← HZ.out]
      simp [hw]
    clear HZ hw
    rcases nat_cases la with rfl | ⟨hla, ha1, ha2⟩ <;> rcases nat_cases lb with rfl | ⟨hlb, hb1, hb2⟩
    all_goals
      go_enter Tryz.func72, Tryz.ntmps72
      go_wp2_with fail
      refine HW.out.mono ?_
      rintro e w1 ⟨rfl, hb1⟩
      obtain ⟨⟨f1, f2, f3⟩, ff⟩ := HF.out _ hb1
      have hfin := (HB.out _ hb1).setCell (p := ⟨w.heap.size, 1, none⟩) (Nat.le_refl _) (.string ⟨#[]⟩)
      clear HW HF HB hb1
      go_wp2
      go_ret
      refine ⟨ret_bool ?_, hfin⟩
      rw [← HZ2.out]
      simp [*]
theorem isFormed_any (k : Int) (s : List UInt8) (a : Option Addr) (la ca : Nat) (b : Option Addr) (lb cb : Nat) (w : World) :
    Calls Tryz.prog 72 #[.agg #[.int .i64 k, .string (strL s), .slice a la ca, .slice b lb cb]] w fun e w' => e = .returned (.bool (formB k s la lb)) ∧ Below w.heap.size w w' := by
  by_cases h : k = 3
  · subst h; exact isFormed_num s a la ca b lb cb w
  · exact isFormed_plain k h s a la ca b lb cb w
end Go.Proofs.YtjjoedkigjekcaaGreatDoor

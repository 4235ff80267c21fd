/-
  What is proved here: what utf.Right, hasHangul, mayStand, formed, fromOf and itself answer; rows in memory. · what seek answers, of rows and of runes. · what formed, faultOf and Class answer. · what faultOf, Class and syllable answer.
-/
import Derived.Test.YtlnehhfljjeifaaDoorA0
import Derived.Test.YtlnehhfljjeifaaDoorBase
import Derived.Deep.RegionHeld3
import Derived.Maps.AppendAt
namespace Go.Proofs.YtlnehhfljjeifaaDoor
open Go.RowKit

/-- a rune's width -/
def wid (r : Int) : Int := if r < 0 ∨ 1114111 < r then 0 else if r < 128 then 1 else if r < 2048 then 2 else if 55296 ≤ r ∧ r ≤ 57343 then 0 else if r < 65536 then 3 else 4
theorem wid_right (r : Int) : decide (0 < wid r) = rightR r := by
  unfold wid rightR; rw [decide_eq_decide]; (repeat' split) <;> omega
set_option maxHeartbeats 400000 in
theorem width_any (r : Int) (w : World) :
    Calls Tryd.prog 62 #[.int .i32 r] w fun e w' => e = .returned (.int .i64 (wid r)) ∧ w = w' := by
  go_enter Tryd.func62, Tryd.ntmps62
  go_wp2
  all_goals go_ret
  all_goals refine ⟨ret_int ?_, rfl⟩
  all_goals (unfold wid; (repeat' split) <;> omega)
set_option maxHeartbeats 400000 in
theorem right_rune (r : Int) (w : World) :
    Calls Tryd.prog 42 #[.int .i32 r] w fun e w' => e = .returned (.bool (rightR r)) ∧ w = w' := by
  rw [← wid_right]
  have HW := Hid.mk' (width_any r w)
  generalize wid r = x at *
  go_enter Tryd.func42, Tryd.ntmps42
  go_wp2_with fail
  refine HW.out.mono ?_
  rintro e w' ⟨rfl, rfl⟩
  go_wp2
  go_ret
  exact ⟨rfl, rfl⟩
set_option maxRecDepth 100000 in
set_option maxHeartbeats 2000000 in
theorem hasHangul_any (lo hi : Int) (w : World) (p : Nat → Addr) (hg : Gl p w) :
    Calls Tryd.prog 41 #[.int .i32 lo, .int .i32 hi] w fun e w' => e = .returned (.bool (hangs lo hi)) ∧ Below w.heap.size w w' := by
  have HT : Hid (((lo ≤ 55203 ∧ 44032 ≤ hi) ∨ (lo ≤ 4370 ∧ 4352 ≤ hi) ∨ (lo ≤ 4469 ∧ 4449 ≤ hi) ∨ (lo ≤ 4546 ∧ 4520 ≤ hi)) → hangs lo hi = true) := fun h => by unfold hangs; exact decide_eq_true h
  have HF : Hid (¬ ((lo ≤ 55203 ∧ 44032 ≤ hi) ∨ (lo ≤ 4370 ∧ 4352 ≤ hi) ∨ (lo ≤ 4469 ∧ 4449 ≤ hi) ∨ (lo ≤ 4546 ∧ 4520 ≤ hi)) → hangs lo hi = false) := fun h => by unfold hangs; exact decide_eq_false h
  generalize hangs lo hi = res at *
  obtain ⟨-, -, -, -, -, -, -, h0, h1, h2, h3, h4, h5, h6, h7⟩ := hg
  have i0 : ∀ w, (Instr.index 99 (.agg #[.int .i32 44032, .int .i32 55203, .int .i32 4352, .int .i32 4370, .int .i32 4449, .int .i32 4469, .int .i32 4520, .int .i32 4546]) (.int .i64 0)).run Tryd.prog w = .ok (.agg #[.int .i32 44032, .int .i32 55203]) w := fun _ => by kernel_rfl
  have i1 : ∀ w, (Instr.index 99 (.agg #[.int .i32 44032, .int .i32 55203, .int .i32 4352, .int .i32 4370, .int .i32 4449, .int .i32 4469, .int .i32 4520, .int .i32 4546]) (.int .i64 1)).run Tryd.prog w = .ok (.agg #[.int .i32 4352, .int .i32 4370]) w := fun _ => by kernel_rfl
  have i2 : ∀ w, (Instr.index 99 (.agg #[.int .i32 44032, .int .i32 55203, .int .i32 4352, .int .i32 4370, .int .i32 4449, .int .i32 4469, .int .i32 4520, .int .i32 4546]) (.int .i64 2)).run Tryd.prog w = .ok (.agg #[.int .i32 4449, .int .i32 4469]) w := fun _ => by kernel_rfl
  have i3 : ∀ w, (Instr.index 99 (.agg #[.int .i32 44032, .int .i32 55203, .int .i32 4352, .int .i32 4370, .int .i32 4449, .int .i32 4469, .int .i32 4520, .int .i32 4546]) (.int .i64 3)).run Tryd.prog w = .ok (.agg #[.int .i32 4520, .int .i32 4546]) w := fun _ => by kernel_rfl
  go_enter Tryd.func41, Tryd.ntmps41
  go_wp2
  clear h0 h1 h2 h3 h4 h5 h6 h7
  go_loopw [8] (fun x wr => ∃ k : Nat, x = .int .i64 k ∧ k ≤ 4 ∧ Hid ((0 < k → ¬ (lo ≤ 55203 ∧ 44032 ≤ hi)) ∧ (1 < k → ¬ (lo ≤ 4370 ∧ 4352 ≤ hi)) ∧ (2 < k → ¬ (lo ≤ 4469 ∧ 4449 ≤ hi)) ∧ (3 < k → ¬ (lo ≤ 4546 ∧ 4520 ≤ hi))) ∧ Below w.heap.size w wr) (fun y _ => 4 - (intOf y).toNat)
  case atStart => exact ⟨0, rfl, by omega, ⟨by omega, by omega, by omega, by omega⟩, Below.refl _ _⟩
  case round =>
    obtain ⟨k, rfl, hk, hm, hb⟩ := hrel
    rcases (by omega : k = 0 ∨ k = 1 ∨ k = 2 ∨ k = 3 ∨ k = 4) with rfl | rfl | rfl | rfl | rfl
    · rcases (by omega : 55203 < lo ∨ (lo ≤ 55203 ∧ hi < 44032) ∨ (lo ≤ 55203 ∧ 44032 ≤ hi)) with g | ⟨g, g'⟩ | ⟨g, g'⟩
      · go_wp2
        go_roundw
        case rel => exact ⟨1, rfl, by omega, ⟨by omega, by omega, by omega, by omega⟩, (hb.alloc hb.size _)⟩
        case measure => simp [intOf]
      · go_wp2
        go_roundw
        case rel => exact ⟨1, rfl, by omega, ⟨by omega, by omega, by omega, by omega⟩, (hb.alloc hb.size _)⟩
        case measure => simp [intOf]
      · go_wp2
        go_ret
        exact ⟨ret_bool (HT.out (.inl ⟨g, g'⟩)).symm, (hb.alloc hb.size _)⟩
    · rcases (by omega : 4370 < lo ∨ (lo ≤ 4370 ∧ hi < 4352) ∨ (lo ≤ 4370 ∧ 4352 ≤ hi)) with g | ⟨g, g'⟩ | ⟨g, g'⟩
      · go_wp2
        go_roundw
        case rel => exact ⟨2, rfl, by omega, ⟨fun _ => hm.out.1 (by omega), by omega, by omega, by omega⟩, (hb.alloc hb.size _)⟩
        case measure => simp [intOf]
      · go_wp2
        go_roundw
        case rel => exact ⟨2, rfl, by omega, ⟨fun _ => hm.out.1 (by omega), by omega, by omega, by omega⟩, (hb.alloc hb.size _)⟩
        case measure => simp [intOf]
      · go_wp2
        go_ret
        exact ⟨ret_bool (HT.out (.inr (.inl ⟨g, g'⟩))).symm, (hb.alloc hb.size _)⟩
    · rcases (by omega : 4469 < lo ∨ (lo ≤ 4469 ∧ hi < 4449) ∨ (lo ≤ 4469 ∧ 4449 ≤ hi)) with g | ⟨g, g'⟩ | ⟨g, g'⟩
      · go_wp2
        go_roundw
        case rel => exact ⟨3, rfl, by omega, ⟨fun _ => hm.out.1 (by omega), fun _ => hm.out.2.1 (by omega), by omega, by omega⟩, (hb.alloc hb.size _)⟩
        case measure => simp [intOf]
      · go_wp2
        go_roundw
        case rel => exact ⟨3, rfl, by omega, ⟨fun _ => hm.out.1 (by omega), fun _ => hm.out.2.1 (by omega), by omega, by omega⟩, (hb.alloc hb.size _)⟩
        case measure => simp [intOf]
      · go_wp2
        go_ret
        exact ⟨ret_bool (HT.out (.inr (.inr (.inl ⟨g, g'⟩)))).symm, (hb.alloc hb.size _)⟩
    · rcases (by omega : 4546 < lo ∨ (lo ≤ 4546 ∧ hi < 4520) ∨ (lo ≤ 4546 ∧ 4520 ≤ hi)) with g | ⟨g, g'⟩ | ⟨g, g'⟩
      · go_wp2
        go_roundw
        case rel => exact ⟨4, rfl, by omega, ⟨fun _ => hm.out.1 (by omega), fun _ => hm.out.2.1 (by omega), fun _ => hm.out.2.2.1 (by omega), by omega⟩, (hb.alloc hb.size _)⟩
        case measure => simp [intOf]
      · go_wp2
        go_roundw
        case rel => exact ⟨4, rfl, by omega, ⟨fun _ => hm.out.1 (by omega), fun _ => hm.out.2.1 (by omega), fun _ => hm.out.2.2.1 (by omega), by omega⟩, (hb.alloc hb.size _)⟩
        case measure => simp [intOf]
      · go_wp2
        go_ret
        exact ⟨ret_bool (HT.out (.inr (.inr (.inr ⟨g, g'⟩)))).symm, (hb.alloc hb.size _)⟩
    · have hf : Hid (res = false) := HF.out (by
        obtain ⟨a, b, c, d⟩ := hm.out
        rintro (h | h | h | h)
        · exact a (by omega) h
        · exact b (by omega) h
        · exact c (by omega) h
        · exact d (by omega) h)
      go_wp2
      go_ret
      exact ⟨ret_bool hf.out.symm, hb⟩
set_option maxHeartbeats 1000000 in
theorem mayStand_any (r : Int) (w : World) (p : Nat → Addr) (hg : Gl p w) :
    Calls Tryd.prog 55 #[.int .i32 r] w fun e w' => e = .returned (.bool (mayR r)) ∧ Below w.heap.size w w' := by
  have HH := Hid.mk' (hasHangul_any r r w p hg)
  rw [hangs_self] at HH
  have HR := Hid.mk' (right_rune r w)
  unfold mayR
  generalize hang r = h at *
  cases hr : rightR r
  · rw [hr] at HR
    clear HH hg
    go_enter Tryd.func55, Tryd.ntmps55
    go_wp2_with fail
    refine HR.out.mono ?_
    rintro e w1 ⟨rfl, rfl⟩
    go_wp2
    go_ret
    exact ⟨rfl, Below.refl _ _⟩
  · rw [hr] at HR
    clear hg
    go_enter Tryd.func55, Tryd.ntmps55
    go_wp2_with fail
    refine HR.out.mono ?_
    rintro e w1 ⟨rfl, rfl⟩
    go_wp2_with fail
    refine HH.out.mono ?_
    rintro e w1 ⟨rfl, hb⟩
    go_wp2
    go_ret
    exact ⟨ret_bool (by simp), hb⟩
/-- a slice value that holds rows -/
def Rows4 (w : World) (v : Value) (l : List Rw) : Prop :=
  ∃ a cap, v = .slice a l.length cap ∧ ∀ j, j < l.length → ∃ b off tv, a = some ⟨b, off, none⟩ ∧ w.cell? ⟨b, off + j * 2, none⟩ = some (.int .i32 (rw_ l j).fr) ∧ w.cell? ⟨b, off + j * 2 + 1, none⟩ = some tv ∧ Runes w tv (rw_ l j).to
theorem Rows4.below {w w' : World} {v : Value} {l : List Rw} (h : Rows4 w v l) (hb : Below w.heap.size w w') : Rows4 w' v l := by
  obtain ⟨a, cap, rfl, h⟩ := h
  refine ⟨a, cap, rfl, fun j hj => ?_⟩
  obtain ⟨b, off, tv, rfl, h0, h1, h2⟩ := h j hj
  exact ⟨b, off, tv, rfl, (hb.cell (p := ⟨b, off + j * 2, none⟩) (lt_of_cell h0)).trans h0, (hb.cell (p := ⟨b, off + j * 2 + 1, none⟩) (lt_of_cell h1)).trans h1, h2.below hb⟩
set_option maxHeartbeats 400000 in
theorem fromOf_any (fr : Int) (tv : Value) (w : World) :
    Calls Tryd.prog 58 #[.agg #[.int .i32 fr, tv]] w fun e w' => e = .returned (.int .i32 fr) ∧ w' = w.alloc (.cells #[.int .i32 fr, tv] 53) := by
  go_enter Tryd.func58, Tryd.ntmps58
  go_wp2
  go_ret
  exact ⟨rfl, rfl⟩
set_option maxHeartbeats 400000 in
theorem itself_any (r : Int) (w : World) :
    Calls Tryd.prog 39 #[.int .i32 r] w fun e w' => e = .returned (.int .i32 r) ∧ w = w' := by
  go_enter Tryd.func39, Tryd.ntmps39
  go_wp2
  go_ret
  exact ⟨rfl, rfl⟩
end Go.Proofs.YtlnehhfljjeifaaDoor
namespace Go.Proofs.YtlnehhfljjeifaaDoor
open Go.RowKit

set_option maxHeartbeats 1000000 in
/-- sort.Search with any function that tells which keys are at r or above it -/
theorem search4 (F B n : Nat) (key : Nat → Int) (r : Int) (w : World) (hF : ∀ args w, (callFunc F args).run Tryd.prog w = .ok (.enter F args) w)
    (hC : ∀ w' i, Below w.heap.size w w' → i < n → Calls Tryd.prog F #[.int .i64 (i : Nat), .pointer (some ⟨B + 2, 0, none⟩), .pointer (some ⟨B, 0, none⟩), .pointer (some ⟨B + 1, 0, none⟩)] w' fun e w'' => e = .returned (.bool (decide (r ≤ key i))) ∧ Below w'.heap.size w' w'')
    (hn : n ≤ 2147483648) (hm : ∀ i j, i ≤ j → j < n → key i ≤ key j) :
    Calls Tryd.prog 59 #[.int .i64 n, .func (.func F) #[] #[.pointer (some ⟨B + 2, 0, none⟩), .pointer (some ⟨B, 0, none⟩), .pointer (some ⟨B + 1, 0, none⟩)]] w fun e w' => (∃ i : Nat, e = .returned (.int .i64 i) ∧ i ≤ n ∧ (∀ k, k < i → key k < r) ∧ (∀ k, i ≤ k → k < n → r ≤ key k)) ∧ Below w.heap.size w w' := by
  have HC := Hid.mk' hC
  have HM := Hid.mk' hm
  clear hC hm
  go_enter Tryd.func59, Tryd.ntmps59
  go_wp2
  go_loopw [5, 6] (fun x y wr => ∃ i j : Nat, x = .int .i64 i ∧ y = .int .i64 j ∧ i ≤ j ∧ j ≤ n ∧ Hid (∀ k, k < i → key k < r) ∧ Hid (∀ k, j ≤ k → k < n → r ≤ key k) ∧ Below w.heap.size w wr) (fun x y _ => (intOf y).toNat - (intOf x).toNat)
  case atStart => exact ⟨0, n, rfl, rfl, Nat.zero_le _, Nat.le_refl _, fun k hk => by omega, fun k h1 h2 => by omega, Below.refl _ _⟩
  case round =>
    obtain ⟨i, j, rfl, rfl, hij, hj, h1, h2, hb⟩ := hrel
    by_cases hlt : i < j
    · obtain ⟨h, hh⟩ : ∃ h : Nat, ((i : Int) + j) / 2 = h := ⟨(i + j) / 2, by omega⟩
      have hh1 : i ≤ h := by omega
      have hh2 : h < j := by omega
      have HCh := Hid.mk' (HC.out wr h hb (by omega))
      cases hp : decide (r ≤ key h)
      · rw [hp] at HCh
        have hq : key h < r := by simpa using hp
        have h1' : Hid (∀ k, k < h + 1 → key k < r) := fun k hk => Int.lt_of_le_of_lt (HM.out k h (by omega) (by omega)) hq
        clear hp hq
        go_wp2_with fail
        refine HCh.out.mono ?_
        rintro e w1 ⟨rfl, hb1⟩
        go_wp2
        go_roundw
        case rel => exact ⟨h + 1, j, by go_num, rfl, by omega, hj, h1', h2, hb.trans (hb1.mono hb.size)⟩
        case measure => simp [intOf]; omega
      · rw [hp] at HCh
        have hq : r ≤ key h := by simpa using hp
        have h2' : Hid (∀ k, h ≤ k → k < n → r ≤ key k) := fun k hk hkl => Int.le_trans hq (HM.out h k hk hkl)
        clear hp hq
        go_wp2_with fail
        refine HCh.out.mono ?_
        rintro e w1 ⟨rfl, hb1⟩
        go_wp2
        go_roundw
        case rel => exact ⟨i, h, rfl, rfl, hh1, by omega, h1, h2', hb.trans (hb1.mono hb.size)⟩
        case measure => simp [intOf]; omega
    · go_wp2
      go_ret
      exact ⟨⟨i, rfl, by omega, h1.out, fun k hk => h2.out k (by omega)⟩, hb⟩
/-- x is the number of that key which is r; -1: none is -/
def Sought (n : Nat) (key : Nat → Int) (r x : Int) : Prop := (∃ i : Nat, x = i ∧ i < n ∧ key i = r) ∨ (x = -1 ∧ ∀ i, i < n → key i ≠ r)
theorem sought_miss {n i : Nat} {key : Nat → Int} {r : Int} (hm : ∀ i j, i ≤ j → j < n → key i ≤ key j) (h1 : ∀ k, k < i → key k < r) (hi : i < n → r < key i) : ∀ k, k < n → key k ≠ r := by
  intro k hk e
  rcases Nat.lt_or_ge k i with g | g
  · have := h1 k g; omega
  · have := hm i k g hk
    have := hi (by omega)
    omega
theorem three_boxes (w : World) (x y z : Value) (t1 t2 t3 : TypeId) :
    (((w.alloc (.cells #[x] t1)).alloc (.cells #[y] t2)).alloc (.cells #[z] t3)).cell? ⟨w.heap.size, 0, none⟩ = some x ∧ (((w.alloc (.cells #[x] t1)).alloc (.cells #[y] t2)).alloc (.cells #[z] t3)).cell? ⟨w.heap.size + 1, 0, none⟩ = some y ∧ (((w.alloc (.cells #[x] t1)).alloc (.cells #[y] t2)).alloc (.cells #[z] t3)).cell? ⟨w.heap.size + 2, 0, none⟩ = some z := by
  refine ⟨?_, ?_, ?_⟩
  · rw [World.cell?_alloc_lt _ _ ⟨w.heap.size, 0, none⟩ (by rw [World.size_alloc, World.size_alloc]; show w.heap.size < _; omega), World.cell?_alloc_lt _ _ ⟨w.heap.size, 0, none⟩ (by rw [World.size_alloc]; show w.heap.size < _; omega), World.cell?_alloc_new]
    rfl
  · rw [World.cell?_alloc_lt _ _ ⟨w.heap.size + 1, 0, none⟩ (by rw [World.size_alloc, World.size_alloc]; show w.heap.size + 1 < _; omega)]
    have e := World.cell?_alloc_new (w.alloc (.cells #[x] t1)) #[y] t2 0
    rw [World.size_alloc] at e
    rw [e]; rfl
  · have e := World.cell?_alloc_new ((w.alloc (.cells #[x] t1)).alloc (.cells #[y] t2)) #[z] t3 0
    rw [World.size_alloc, World.size_alloc] at e
    rw [e]; rfl
set_option maxHeartbeats 1000000 in
theorem seekRow1_any (l : List Rw) (r : Int) (i B : Nat) (a : Option Addr) (cap : Nat) (w : World) (c0 : w.cell? ⟨B, 0, none⟩ = some (.slice a l.length cap)) (c1 : w.cell? ⟨B + 1, 0, none⟩ = some (.int .i32 r)) (c2 : w.cell? ⟨B + 2, 0, none⟩ = some (.func (.func 58) #[] #[])) (hT : Rows4 w (.slice a l.length cap) l) (hi : i < l.length) (_hl : l.length ≤ 2147483648) :
    Calls Tryd.prog 75 #[.int .i64 (i : Nat), .pointer (some ⟨B + 2, 0, none⟩), .pointer (some ⟨B, 0, none⟩), .pointer (some ⟨B + 1, 0, none⟩)] w fun e w' => e = .returned (.bool (decide (r ≤ (rw_ l i).fr))) ∧ Below w.heap.size w w' := by
  obtain ⟨a', cap', e, hT⟩ := hT
  obtain ⟨rfl, rfl⟩ : a = a' ∧ cap = cap' := by simpa using e
  obtain ⟨b, off, tv, rfl, d0, d1, hR⟩ := hT i hi
  obtain ⟨ta, tcap, rfl, -⟩ := hR
  clear hT e
  generalize rw_ l i = q at *
  have HF := Hid.mk' (fun W => fromOf_any q.fr (.slice ta q.to.length tcap) W)
  have hF : ∀ args w, (callFunc 58 args).run Tryd.prog w = .ok (.enter 58 args) w := enters_of Tryd.func58 (by kernel_rfl) rfl
  go_enter Tryd.func75, Tryd.ntmps75
  go_wp2
  go_region_held3 (fun w' => w'.cell? ⟨B, 0, none⟩ = some (.slice (some ⟨b, off, none⟩) l.length cap) ∧ w'.cell? ⟨B + 1, 0, none⟩ = some (.int .i32 r) ∧ w'.cell? ⟨B + 2, 0, none⟩ = some (.func (.func 58) #[] #[]) ∧ w'.cell? ⟨b, off + i * 2, none⟩ = some (.int .i32 q.fr) ∧ w'.cell? ⟨b, off + i * 2 + 1, none⟩ = some (.slice ta q.to.length tcap)) (first | exact ⟨c0, c1, c2, d0, d1⟩ | exact ⟨k0, k1, k2, k3, k4⟩ | go_keep) ((go_at_fn 58; refine (HF.out _).mono ?_; rintro e w2 ⟨rfl, rfl⟩))
  go_wp2
  go_ret
  exact ⟨rfl, ((Below.refl _ _).alloc (Nat.le_refl _) _).drew⟩
set_option maxHeartbeats 1000000 in
theorem seekRow_any (v : Value) (l : List Rw) (r : Int) (w : World) (hT : Rows4 w v l) (hl : l.length ≤ 2147483648) (hm : ∀ i j, i ≤ j → j < l.length → (rw_ l i).fr ≤ (rw_ l j).fr) :
    Calls Tryd.prog 57 #[v, .int .i32 r, .func (.func 58) #[] #[]] w fun e w' => (∃ x, e = .returned (.int .i64 x) ∧ Sought l.length (fun i => (rw_ l i).fr) r x) ∧ Below w.heap.size w w' := by
  obtain ⟨a, cap, rfl, hT'⟩ := id hT
  have HT := Hid.mk' hT'
  have HM := Hid.mk' hm
  obtain ⟨W, hW⟩ : ∃ W, ((w.alloc (.cells #[.slice a l.length cap] 22)).alloc (.cells #[.int .i32 r] 21)).alloc (.cells #[.func (.func 58) #[] #[]] 92) = W := ⟨_, rfl⟩
  have hb0 : Below w.heap.size w W := by rw [← hW]; exact (((Below.refl _ w).alloc (Nat.le_refl _) _).alloc (by simp) _).alloc (by simp; omega) _
  have e0 : W.cell? ⟨w.heap.size, 0, none⟩ = some (.slice a l.length cap) := by rw [← hW]; exact (three_boxes _ _ _ _ _ _ _).1
  have e1 : W.cell? ⟨w.heap.size + 1, 0, none⟩ = some (.int .i32 r) := by rw [← hW]; exact (three_boxes _ _ _ _ _ _ _).2.1
  have e2 : W.cell? ⟨w.heap.size + 2, 0, none⟩ = some (.func (.func 58) #[] #[]) := by rw [← hW]; exact (three_boxes _ _ _ _ _ _ _).2.2
  have HS := Hid.mk' (search4 75 w.heap.size l.length (fun i => (rw_ l i).fr) r W (enters_of Tryd.func75 (by kernel_rfl) rfl)
    (fun w' i hb hi => seekRow1_any l r i w.heap.size a cap w' ((hb.cell (lt_of_cell e0)).trans e0) ((hb.cell (lt_of_cell e1)).trans e1) ((hb.cell (lt_of_cell e2)).trans e2) (hT.below (hb0.trans (hb.mono hb0.size))) hi hl) hl hm)
  have hF : ∀ args w, (callFunc 58 args).run Tryd.prog w = .ok (.enter 58 args) w := enters_of Tryd.func58 (by kernel_rfl) rfl
  have HB := Hid.mk' hb0
  have HE : Hid (∀ w1, Below W.heap.size W w1 → w1.cell? ⟨w.heap.size, 0, none⟩ = some (.slice a l.length cap) ∧ w1.cell? ⟨w.heap.size + 1, 0, none⟩ = some (.int .i32 r) ∧ w1.cell? ⟨w.heap.size + 2, 0, none⟩ = some (.func (.func 58) #[] #[])) := fun w1 hb => ⟨(hb.cell (lt_of_cell e0)).trans e0, (hb.cell (lt_of_cell e1)).trans e1, (hb.cell (lt_of_cell e2)).trans e2⟩
  clear hT hT' hm e0 e1 e2 hb0
  subst hW
  go_enter Tryd.func57, Tryd.ntmps57
  go_wp2_with fail
  refine HS.out.mono ?_
  rintro e w1 ⟨⟨i, rfl, hi, h1, h2⟩, hb⟩
  have H1 := Hid.mk' h1
  have H2 := Hid.mk' h2
  have hbw := HB.out.trans (hb.mono HB.out.size)
  obtain ⟨c0, c1, c2⟩ := HE.out w1 hb
  clear h1 h2 hb HS HE HB
  rcases Nat.lt_or_ge i l.length with hlt | hge
  · have hne : ((i : Int) == (l.length : Int)) = false := by simp; omega
    obtain ⟨b, off, tv, rfl, d0', d1', hR⟩ := HT.out i hlt
    obtain ⟨ta, tcap, rfl, -⟩ := hR
    have d0 := (hbw.cell (p := ⟨b, off + i * 2, none⟩) (lt_of_cell d0')).trans d0'
    have d1 := (hbw.cell (p := ⟨b, off + i * 2 + 1, none⟩) (lt_of_cell d1')).trans d1'
    clear d0' d1'
    have hfr : Hid (r ≤ (rw_ l i).fr) := H2.out i (Nat.le_refl _) hlt
    have hS : Hid (∀ x : Int, x = (if (rw_ l i).fr = r then (i : Int) else -1) → Sought l.length (fun i => (rw_ l i).fr) r x) := fun x hx => by
      by_cases h : (rw_ l i).fr = r
      · rw [if_pos h] at hx; exact .inl ⟨i, hx, hlt, h⟩
      · rw [if_neg h] at hx; exact .inr ⟨hx, sought_miss HM.out H1.out fun _ => by have := hfr.out; show r < (rw_ l i).fr; omega⟩
    have HF := Hid.mk' (fun W => fromOf_any (rw_ l i).fr (.slice ta (rw_ l i).to.length tcap) W)
    clear H1 H2
    generalize rw_ l i = q at *
    by_cases hq : q.fr = r
    · rw [if_pos hq] at hS
      have hqb : (q.fr != r) = false := by simp [hq]
      clear hfr hq
      go_wp2
      go_region_held3 (fun w' => w'.cell? ⟨w.heap.size, 0, none⟩ = some (.slice (some ⟨b, off, none⟩) l.length cap) ∧ w'.cell? ⟨w.heap.size + 1, 0, none⟩ = some (.int .i32 r) ∧ w'.cell? ⟨w.heap.size + 2, 0, none⟩ = some (.func (.func 58) #[] #[]) ∧ w'.cell? ⟨b, off + i * 2, none⟩ = some (.int .i32 q.fr) ∧ w'.cell? ⟨b, off + i * 2 + 1, none⟩ = some (.slice ta q.to.length tcap)) (first | exact ⟨c0, c1, c2, d0, d1⟩ | go_keep) ((go_at_fn 58; refine (HF.out _).mono ?_; rintro e w2 ⟨rfl, rfl⟩))
      go_wp2
      go_ret
      exact ⟨⟨_, rfl, hS.out _ rfl⟩, (hbw.alloc hbw.size _).drew⟩
    · rw [if_neg hq] at hS
      have hqb : (q.fr != r) = true := by simp [hq]
      clear hfr hq
      go_wp2
      go_region_held3 (fun w' => w'.cell? ⟨w.heap.size, 0, none⟩ = some (.slice (some ⟨b, off, none⟩) l.length cap) ∧ w'.cell? ⟨w.heap.size + 1, 0, none⟩ = some (.int .i32 r) ∧ w'.cell? ⟨w.heap.size + 2, 0, none⟩ = some (.func (.func 58) #[] #[]) ∧ w'.cell? ⟨b, off + i * 2, none⟩ = some (.int .i32 q.fr) ∧ w'.cell? ⟨b, off + i * 2 + 1, none⟩ = some (.slice ta q.to.length tcap)) (first | exact ⟨c0, c1, c2, d0, d1⟩ | go_keep) ((go_at_fn 58; refine (HF.out _).mono ?_; rintro e w2 ⟨rfl, rfl⟩))
      go_wp2
      go_ret
      exact ⟨⟨_, rfl, hS.out _ rfl⟩, (hbw.alloc hbw.size _).drew⟩
  · obtain rfl : i = l.length := by omega
    have hS : Hid (Sought l.length (fun i => (rw_ l i).fr) r (-1)) := .inr ⟨rfl, fun k hk => by have : (rw_ l k).fr < r := H1.out k hk; show (rw_ l k).fr ≠ r; omega⟩
    clear H1 H2 HM
    have heq : ((l.length : Int) == (l.length : Int)) = true := by simp
    go_wp2
    go_region
    go_wp2
    go_ret
    exact ⟨⟨_, rfl, hS.out⟩, hbw.drew⟩
set_option maxHeartbeats 1000000 in
theorem seekRune1_any (l : List Int) (r : Int) (i B : Nat) (a : Option Addr) (cap : Nat) (w : World) (c0 : w.cell? ⟨B, 0, none⟩ = some (.slice a l.length cap)) (c1 : w.cell? ⟨B + 1, 0, none⟩ = some (.int .i32 r)) (c2 : w.cell? ⟨B + 2, 0, none⟩ = some (.func (.func 39) #[] #[])) (hT : Runes w (.slice a l.length cap) l) (hi : i < l.length) (_hl : l.length ≤ 2147483648) :
    Calls Tryd.prog 60 #[.int .i64 (i : Nat), .pointer (some ⟨B + 2, 0, none⟩), .pointer (some ⟨B, 0, none⟩), .pointer (some ⟨B + 1, 0, none⟩)] w fun e w' => e = .returned (.bool (decide (r ≤ l.getD i 0))) ∧ Below w.heap.size w w' := by
  obtain ⟨a', cap', e, hT⟩ := hT
  obtain ⟨rfl, rfl⟩ : a = a' ∧ cap = cap' := by simpa using e
  obtain ⟨b, off, rfl, d0⟩ := hT i hi
  clear hT e
  generalize l.getD i 0 = q at *
  have HF := Hid.mk' (fun W => itself_any q W)
  have hF : ∀ args w, (callFunc 39 args).run Tryd.prog w = .ok (.enter 39 args) w := enters_of Tryd.func39 (by kernel_rfl) rfl
  go_enter Tryd.func60, Tryd.ntmps60
  go_wp2
  go_region_held3 (fun w' => w'.cell? ⟨B, 0, none⟩ = some (.slice (some ⟨b, off, none⟩) l.length cap) ∧ w'.cell? ⟨B + 1, 0, none⟩ = some (.int .i32 r) ∧ w'.cell? ⟨B + 2, 0, none⟩ = some (.func (.func 39) #[] #[]) ∧ w'.cell? ⟨b, off + i, none⟩ = some (.int .i32 q)) (first | exact ⟨c0, c1, c2, d0⟩ | go_keep) ((go_at_fn 39; refine (HF.out _).mono ?_; rintro e w2 ⟨rfl, rfl⟩))
  go_wp2
  go_ret
  exact ⟨rfl, (Below.refl _ _).drew⟩
set_option maxHeartbeats 1000000 in
theorem seekRune_any (v : Value) (l : List Int) (r : Int) (w : World) (hT : Runes w v l) (hl : l.length ≤ 2147483648) (hm : ∀ i j, i ≤ j → j < l.length → l.getD i 0 ≤ l.getD j 0) :
    Calls Tryd.prog 38 #[v, .int .i32 r, .func (.func 39) #[] #[]] w fun e w' => (∃ x, e = .returned (.int .i64 x) ∧ Sought l.length (fun i => l.getD i 0) r x) ∧ Below w.heap.size w w' := by
  obtain ⟨a, cap, rfl, hT'⟩ := id hT
  have HT := Hid.mk' hT'
  have HM := Hid.mk' hm
  obtain ⟨W, hW⟩ : ∃ W, ((w.alloc (.cells #[.slice a l.length cap] 24)).alloc (.cells #[.int .i32 r] 21)).alloc (.cells #[.func (.func 39) #[] #[]] 74) = W := ⟨_, rfl⟩
  have hb0 : Below w.heap.size w W := by rw [← hW]; exact (((Below.refl _ w).alloc (Nat.le_refl _) _).alloc (by simp) _).alloc (by simp; omega) _
  have e0 : W.cell? ⟨w.heap.size, 0, none⟩ = some (.slice a l.length cap) := by rw [← hW]; exact (three_boxes _ _ _ _ _ _ _).1
  have e1 : W.cell? ⟨w.heap.size + 1, 0, none⟩ = some (.int .i32 r) := by rw [← hW]; exact (three_boxes _ _ _ _ _ _ _).2.1
  have e2 : W.cell? ⟨w.heap.size + 2, 0, none⟩ = some (.func (.func 39) #[] #[]) := by rw [← hW]; exact (three_boxes _ _ _ _ _ _ _).2.2
  have HS := Hid.mk' (search4 60 w.heap.size l.length (fun i => l.getD i 0) r W (enters_of Tryd.func60 (by kernel_rfl) rfl)
    (fun w' i hb hi => seekRune1_any l r i w.heap.size a cap w' ((hb.cell (lt_of_cell e0)).trans e0) ((hb.cell (lt_of_cell e1)).trans e1) ((hb.cell (lt_of_cell e2)).trans e2) (hT.below (hb0.trans (hb.mono hb0.size))) hi hl) hl hm)
  have hF : ∀ args w, (callFunc 39 args).run Tryd.prog w = .ok (.enter 39 args) w := enters_of Tryd.func39 (by kernel_rfl) rfl
  have HB := Hid.mk' hb0
  have HE : Hid (∀ w1, Below W.heap.size W w1 → w1.cell? ⟨w.heap.size, 0, none⟩ = some (.slice a l.length cap) ∧ w1.cell? ⟨w.heap.size + 1, 0, none⟩ = some (.int .i32 r) ∧ w1.cell? ⟨w.heap.size + 2, 0, none⟩ = some (.func (.func 39) #[] #[])) := fun w1 hb => ⟨(hb.cell (lt_of_cell e0)).trans e0, (hb.cell (lt_of_cell e1)).trans e1, (hb.cell (lt_of_cell e2)).trans e2⟩
  clear hT hT' hm e0 e1 e2 hb0
  subst hW
  go_enter Tryd.func38, Tryd.ntmps38
  go_wp2_with fail
  refine HS.out.mono ?_
  rintro e w1 ⟨⟨i, rfl, hi, h1, h2⟩, hb⟩
  have H1 := Hid.mk' h1
  have H2 := Hid.mk' h2
  have hbw := HB.out.trans (hb.mono HB.out.size)
  obtain ⟨c0, c1, c2⟩ := HE.out w1 hb
  clear h1 h2 hb HS HE HB
  rcases Nat.lt_or_ge i l.length with hlt | hge
  · have hne : ((i : Int) == (l.length : Int)) = false := by simp; omega
    obtain ⟨b, off, rfl, d0'⟩ := HT.out i hlt
    have d0 := (hbw.cell (p := ⟨b, off + i, none⟩) (lt_of_cell d0')).trans d0'
    clear d0'
    have hfr : Hid (r ≤ l.getD i 0) := H2.out i (Nat.le_refl _) hlt
    have hS : Hid (∀ x : Int, x = (if l.getD i 0 = r then (i : Int) else -1) → Sought l.length (fun i => l.getD i 0) r x) := fun x hx => by
      by_cases h : l.getD i 0 = r
      · rw [if_pos h] at hx; exact .inl ⟨i, hx, hlt, h⟩
      · rw [if_neg h] at hx; exact .inr ⟨hx, sought_miss HM.out H1.out fun _ => by have := hfr.out; show r < l.getD i 0; omega⟩
    have HF := Hid.mk' (fun W => itself_any (l.getD i 0) W)
    clear H1 H2
    generalize l.getD i 0 = q at *
    by_cases hq : q = r
    · rw [if_pos hq] at hS
      have hqb : (q != r) = false := by simp [hq]
      clear hfr hq
      go_wp2
      go_region_held3 (fun w' => w'.cell? ⟨w.heap.size, 0, none⟩ = some (.slice (some ⟨b, off, none⟩) l.length cap) ∧ w'.cell? ⟨w.heap.size + 1, 0, none⟩ = some (.int .i32 r) ∧ w'.cell? ⟨w.heap.size + 2, 0, none⟩ = some (.func (.func 39) #[] #[]) ∧ w'.cell? ⟨b, off + i, none⟩ = some (.int .i32 q)) (first | exact ⟨c0, c1, c2, d0⟩ | go_keep) ((go_at_fn 39; refine (HF.out _).mono ?_; rintro e w2 ⟨rfl, rfl⟩))
      go_wp2
      go_ret
      exact ⟨⟨_, rfl, hS.out _ rfl⟩, hbw.drew⟩
    · rw [if_neg hq] at hS
      have hqb : (q != r) = true := by simp [hq]
      clear hfr hq
      go_wp2
      go_region_held3 (fun w' => w'.cell? ⟨w.heap.size, 0, none⟩ = some (.slice (some ⟨b, off, none⟩) l.length cap) ∧ w'.cell? ⟨w.heap.size + 1, 0, none⟩ = some (.int .i32 r) ∧ w'.cell? ⟨w.heap.size + 2, 0, none⟩ = some (.func (.func 39) #[] #[]) ∧ w'.cell? ⟨b, off + i, none⟩ = some (.int .i32 q)) (first | exact ⟨c0, c1, c2, d0⟩ | go_keep) ((go_at_fn 39; refine (HF.out _).mono ?_; rintro e w2 ⟨rfl, rfl⟩))
      go_wp2
      go_ret
      exact ⟨⟨_, rfl, hS.out _ rfl⟩, hbw.drew⟩
  · obtain rfl : i = l.length := by omega
    have hS : Hid (Sought l.length (fun i => l.getD i 0) r (-1)) := .inr ⟨rfl, fun k hk => by have : l.getD k 0 < r := H1.out k hk; show l.getD k 0 ≠ r; omega⟩
    clear H1 H2 HM
    have heq : ((l.length : Int) == (l.length : Int)) = true := by simp
    go_wp2
    go_region
    go_wp2
    go_ret
    exact ⟨⟨_, rfl, hS.out⟩, hbw.drew⟩
end Go.Proofs.YtlnehhfljjeifaaDoor
namespace Go.Proofs.YtlnehhfljjeifaaDoor
open Go.RowKit

theorem formed_len {x : Rw} (h : ¬ (x.to.length = 1 ∨ x.to.length = 2)) : formedR x = false := by
  unfold formedR; rw [decide_eq_false h]; rfl
theorem formed_ge {x : Rw} (h : x.fr ≤ x.to0) : formedR x = false := by
  unfold formedR; rw [decide_eq_false (p := x.to0 < x.fr) (by omega)]; simp
theorem formed_not {x : Rw} {k : Nat} (hk : k < x.to.length) (h : mayR (x.to.getD k 0) = false) : formedR x = false := by
  unfold formedR
  rw [Bool.and_eq_false_iff]
  right
  rw [List.all_eq_false]
  refine ⟨x.to.getD k 0, ?_, by simpa using h⟩
  rw [List.getD, List.getElem?_eq_getElem hk]
  exact List.getElem_mem hk
theorem formed_yes {x : Rw} (h1 : x.to.length = 1 ∨ x.to.length = 2) (h2 : x.to0 < x.fr) (h : ∀ k, k < x.to.length → mayR (x.to.getD k 0) = true) : formedR x = true := by
  unfold formedR
  rw [decide_eq_true h1, decide_eq_true h2]
  simp only [Bool.true_and]
  rw [List.all_eq_true]
  intro r hr
  obtain ⟨k, hk, rfl⟩ := List.mem_iff_getElem.1 hr
  have := h k hk
  rwa [List.getD, List.getElem?_eq_getElem hk] at this
set_option maxRecDepth 100000 in
set_option maxHeartbeats 2000000 in
theorem formed_any (x : Rw) (tv : Value) (w : World) (p : Nat → Addr) (hg : Gl p w) (hT : Runes w tv x.to) (hl : x.to.length ≤ 2147483648) :
    Calls Tryd.prog 56 #[.agg #[.int .i32 x.fr, tv]] w fun e w' => e = .returned (.bool (formedR x)) ∧ Below w.heap.size w w' := by
  obtain ⟨a, cap, rfl, hT⟩ := hT
  have HL : Hid (¬ (x.to.length = 1 ∨ x.to.length = 2) → formedR x = false) := formed_len
  have HG : Hid (x.fr ≤ x.to0 → formedR x = false) := formed_ge
  have HN : Hid (∀ k, k < x.to.length → mayR (x.to.getD k 0) = false → formedR x = false) := fun k hk h => formed_not hk h
  have HY : Hid ((x.to.length = 1 ∨ x.to.length = 2) → x.to0 < x.fr → (∀ k, k < x.to.length → mayR (x.to.getD k 0) = true) → formedR x = true) := formed_yes
  have HT : Hid (∀ W, Below w.heap.size w W → ∀ j, j < x.to.length → ∃ b off, a = some ⟨b, off, none⟩ ∧ W.cell? ⟨b, off + j, none⟩ = some (.int .i32 (x.to.getD j 0))) := fun W hb j hj => by
    obtain ⟨b, off, rfl, hc⟩ := hT j hj
    exact ⟨b, off, rfl, (hb.cell (p := ⟨b, off + j, none⟩) (lt_of_cell hc)).trans hc⟩
  have HM : Hid (∀ W k, Below w.heap.size w W → _) := fun W k hb => mayStand_any (x.to.getD k 0) W p (hg.below hb)
  have h00 : x.to.getD 0 0 = x.to0 := rfl
  obtain ⟨fr, to⟩ := x
  simp only [] at *
  generalize formedR ⟨fr, to⟩ = res at *
  generalize Rw.to0 ⟨fr, to⟩ = t0 at *
  obtain ⟨W0, hW0⟩ : ∃ W0, w.alloc (.cells #[.int .i32 fr, .slice a to.length cap] 53) = W0 := ⟨_, rfl⟩
  have hb0 : Below w.heap.size w W0 := by rw [← hW0]; exact (Below.refl _ w).alloc (Nat.le_refl _) _
  have e0 : W0.cell? ⟨w.heap.size, 0, none⟩ = some (.int .i32 fr) := by rw [← hW0, World.cell?_alloc_new]; rfl
  have e1 : W0.cell? ⟨w.heap.size, 1, none⟩ = some (.slice a to.length cap) := by rw [← hW0, World.cell?_alloc_new]; rfl
  clear hT hg
  rcases (by omega : to.length = 0 ∨ 2 < to.length ∨ (to.length = 1 ∨ to.length = 2)) with hz | hbig | h12
  · have hf : Hid (res = false) := HL.out (by omega)
    have hlt : decide ((to.length : Int) < 1) = true := by simp; omega
    have hH := Hid.mk' hz
    clear hz HN HY HT HM
    go_enter Tryd.func56, Tryd.ntmps56
    go_wp2
    go_region
    go_wp2
    go_ret
    exact ⟨ret_bool hf.out.symm, hb0.drew⟩
  · have hf : Hid (res = false) := HL.out (by omega)
    have hlt : decide ((to.length : Int) < 1) = false := by simp; omega
    have hgt : decide ((2 : Int) < to.length) = true := by simp; omega
    clear hbig HN HY HT HM
    go_enter Tryd.func56, Tryd.ntmps56
    go_wp2
    go_region
    go_wp2
    go_ret
    exact ⟨ret_bool hf.out.symm, hb0.drew⟩
  · obtain ⟨b, off, rfl, c0⟩ := HT.out W0 hb0 0 (by omega)
    rw [h00, Nat.add_zero] at c0
    have hlt : decide ((to.length : Int) < 1) = false := by simp; omega
    have hgt : decide ((2 : Int) < to.length) = false := by simp; omega
    have hlen : (0 : Int) < (to.length : Int) := by omega
    by_cases hge : fr ≤ t0
    · have hf : Hid (res = false) := HG.out hge
      have hgd : decide (fr ≤ t0) = true := decide_eq_true hge
      have h12' := Hid.mk' h12
      clear h12 hge HN HY HT HM HL HG h00
      go_enter Tryd.func56, Tryd.ntmps56
      go_wp2
      go_region
      go_wp2
      go_ret
      exact ⟨ret_bool hf.out.symm, hb0.drew⟩
    · have hgd : decide (fr ≤ t0) = false := decide_eq_false hge
      have HY' : Hid ((∀ k, k < to.length → mayR (to.getD k 0) = true) → res = true) := HY.out h12 (by omega)
      clear h12 hge HY HL HG h00
      go_enter Tryd.func56, Tryd.ntmps56
      go_wp2
      go_region
      go_wp2
      clear c0
      go_loopw [27] (fun y wr => ∃ k : Nat, y = .int .i64 k ∧ k ≤ to.length ∧ Hid (∀ i, i < k → mayR (to.getD i 0) = true) ∧ Below w.heap.size w wr) (fun y _ => to.length - (intOf y).toNat)
      case atStart => exact ⟨0, rfl, Nat.zero_le _, fun i hi => by omega, hb0.drew⟩
      case round =>
        obtain ⟨k, rfl, hk, hm, hb⟩ := hrel
        by_cases hlk : k < to.length
        · obtain ⟨b2, off2, e2, c⟩ := HT.out wr hb k hlk
          obtain ⟨rfl, rfl⟩ : b = b2 ∧ off = off2 := by simpa using e2
          have HMk := Hid.mk' (HM.out wr k hb)
          have HNk := Hid.mk' (HN.out k hlk)
          have HS : Hid (mayR (to.getD k 0) = true → ∀ i, i < k + 1 → mayR (to.getD i 0) = true) := fun h i hi => by
            rcases Nat.lt_or_ge i k with g | g
            · exact hm.out i g
            · obtain rfl : i = k := by omega
              exact h
          clear e2
          generalize to.getD k 0 = z at *
          cases hz : mayR z
          · rw [hz] at HMk
            have hf := Hid.mk' (HNk.out hz)
            go_wp2_with fail
            refine HMk.out.mono ?_
            rintro e w1 ⟨rfl, hb1⟩
            go_wp2
            go_ret
            exact ⟨ret_bool hf.out.symm, hb.trans (hb1.mono hb.size)⟩
          · rw [hz] at HMk
            have hs := Hid.mk' (HS.out hz)
            go_wp2_with fail
            refine HMk.out.mono ?_
            rintro e w1 ⟨rfl, hb1⟩
            go_wp2
            go_roundw
            case rel => exact ⟨k + 1, by go_num, by omega, hs, hb.trans (hb1.mono hb.size)⟩
            case measure => simp [intOf]; omega
        · obtain rfl : k = to.length := by omega
          have hf : Hid (res = true) := HY'.out hm.out
          go_wp2
          go_ret
          exact ⟨ret_bool hf.out.symm, hb⟩
end Go.Proofs.YtlnehhfljjeifaaDoor
namespace Go.Proofs.YtlnehhfljjeifaaDoor
open Go.RowKit

/-- the fault of the row number i by itself, and by the one ahead -/
def faultCode (l : List Rw) (i : Nat) : Nat :=
  if mayR (rw_ l i).fr = false then 4 else if 0 < i ∧ (rw_ l i).fr ≤ (rw_ l (i - 1)).fr then 6 else if formedR (rw_ l i) = false then 5 else 0
/-- is a row's second rune a row's From, or its chain too long? -/
def deepR (l : List Rw) (i : Nat) : Prop := ((rw_ l i).to.length = 2 ∧ (l.any fun x => x.fr == (rw_ l i).to1) = true) ∨ 8 < 1 + chainIn l i (rw_ l i).to0
theorem rowCode_fault {l : List Rw} {i : Nat} (h : faultCode l i ≠ 0) : rowCode l i = faultCode l i := by
  unfold faultCode rowCode at *
  (repeat' split at h) <;> simp_all
theorem rowCode_deep {l : List Rw} {i : Nat} (h : faultCode l i = 0) (hd : deepR l i) : rowCode l i = 9 := by
  unfold faultCode at h
  unfold rowCode
  by_cases h1 : mayR (rw_ l i).fr = false
  · rw [if_pos h1] at h; omega
  · rw [if_neg h1] at h ⊢
    by_cases h2 : 0 < i ∧ (rw_ l i).fr ≤ (rw_ l (i - 1)).fr
    · rw [if_pos h2] at h; omega
    · rw [if_neg h2] at h ⊢
      by_cases h3 : formedR (rw_ l i) = false
      · rw [if_pos h3] at h; omega
      · rw [if_neg h3]
        exact if_pos hd
theorem rowCode_none {l : List Rw} {i : Nat} (h : faultCode l i = 0) (hd : ¬ deepR l i) : rowCode l i = 0 := by
  unfold faultCode at h
  unfold rowCode
  by_cases h1 : mayR (rw_ l i).fr = false
  · rw [if_pos h1] at h; omega
  · rw [if_neg h1] at h ⊢
    by_cases h2 : 0 < i ∧ (rw_ l i).fr ≤ (rw_ l (i - 1)).fr
    · rw [if_pos h2] at h; omega
    · rw [if_neg h2] at h ⊢
      by_cases h3 : formedR (rw_ l i) = false
      · rw [if_pos h3] at h; omega
      · rw [if_neg h3]
        exact if_neg hd
theorem faultCode_zero {l : List Rw} {i : Nat} (h : faultCode l i = 0) : mayR (rw_ l i).fr = true ∧ (0 < i → (rw_ l (i - 1)).fr < (rw_ l i).fr) ∧ formedR (rw_ l i) = true := by
  unfold faultCode at h
  split at h
  · omega
  · rename_i h1
    split at h
    · omega
    · rename_i h2
      split at h
      · omega
      · rename_i h3
        exact ⟨by simpa using h1, fun h0 => by omega, by simpa using h3⟩
set_option maxHeartbeats 2000000 in
theorem faultOf4_any (v : Value) (l : List Rw) (i : Nat) (w : World) (p : Nat → Addr) (hg : Gl p w) (hT : Rows4 w v l) (hi : i < l.length) (hl : l.length ≤ 2147483648) (hlt : (rw_ l i).to.length ≤ 2147483648) :
    Calls Tryd.prog 36 #[v, .int .i64 i] w fun e w' => e = .returned (nam p (faultCode l i)) ∧ Below w.heap.size w w' := by
  obtain ⟨a, cap, rfl, hT⟩ := hT
  obtain ⟨b, off, tv, rfl, d0, d1, hR⟩ := hT i hi
  have HD : Hid (∀ W, Below w.heap.size w W → W.cell? ⟨b, off + i * 2, none⟩ = some (.int .i32 (rw_ l i).fr) ∧ W.cell? ⟨b, off + i * 2 + 1, none⟩ = some tv) := fun W hb => ⟨(hb.cell (p := ⟨b, off + i * 2, none⟩) (lt_of_cell d0)).trans d0, (hb.cell (p := ⟨b, off + i * 2 + 1, none⟩) (lt_of_cell d1)).trans d1⟩
  have HM := Hid.mk' (mayStand_any (rw_ l i).fr w p hg)
  have HFm : Hid (∀ W, Below w.heap.size w W → _) := fun W hb => formed_any (rw_ l i) tv W p (hg.below hb) (hR.below hb) hlt
  have HG : Hid (∀ W, Below w.heap.size w W → _) := fun W hb => hg.below hb
  have hcode : faultCode l i = if mayR (rw_ l i).fr = false then 4 else if 0 < i ∧ (rw_ l i).fr ≤ (rw_ l (i - 1)).fr then 6 else if formedR (rw_ l i) = false then 5 else 0 := rfl
  have HP : Hid (∀ W, Below w.heap.size w W → 0 < i → W.cell? ⟨b, off + (i - 1) * 2, none⟩ = some (.int .i32 (rw_ l (i - 1)).fr)) := fun W hb h0 => by
    obtain ⟨b2, off2, tv2, e2, d2, -, -⟩ := hT (i - 1) (by omega)
    obtain ⟨rfl, rfl⟩ : b = b2 ∧ off = off2 := by simpa using e2
    exact (hb.cell (p := ⟨b, off + (i - 1) * 2, none⟩) (lt_of_cell d2)).trans d2
  obtain ⟨ta, tcap, rfl, -⟩ := hR
  clear hT hg hlt
  generalize faultCode l i = c at *
  generalize rw_ l i = q at *
  obtain ⟨qf, qt⟩ := q
  simp only [] at *
  generalize formedR ⟨qf, qt⟩ = fm at *
  generalize (rw_ l (i - 1)).fr = pf at *
  cases hm : mayR qf
  · rw [hm] at hcode HM
    rw [if_pos rfl] at hcode
    subst hcode
    clear HP HFm HD
    go_enter Tryd.func36, Tryd.ntmps36
    go_wp2_with fail
    refine HM.out.mono ?_
    rintro e w1 ⟨rfl, hb⟩
    have g4 := (HG.out w1 hb).g4
    clear HG
    go_wp2
    go_ret
    exact ⟨rfl, hb⟩
  · rw [hm] at hcode HM
    rw [if_neg (by decide)] at hcode
    by_cases hi0 : i = 0
    · subst hi0
      rw [if_neg (by omega)] at hcode
      simp only [Nat.zero_mul, Nat.add_zero] at *
      go_enter Tryd.func36, Tryd.ntmps36
      go_wp2_with fail
      refine HM.out.mono ?_
      rintro e w1 ⟨rfl, hb⟩
      clear d0 d1 HP
      obtain ⟨d0, d1⟩ := HD.out w1 hb
      have HF1 := Hid.mk' (HFm.out w1.drew hb.drew)
      have g5 := (HG.out w1 hb).g5
      go_wp2
      go_region
      cases hf : fm
      · rw [hf] at hcode HF1
        rw [if_pos rfl] at hcode
        subst hcode
        go_wp2_with fail
        refine HF1.out.mono ?_
        rintro e w2 ⟨rfl, hb2⟩
        have g5' := (HG.out w2 (hb.drew.trans (hb2.mono hb.size))).g5
        clear HG HD HFm g5
        go_wp2
        go_ret
        exact ⟨rfl, hb.drew.trans (hb2.mono hb.size)⟩
      · rw [hf] at hcode HF1
        rw [if_neg (by decide)] at hcode
        subst hcode
        go_wp2_with fail
        refine HF1.out.mono ?_
        rintro e w2 ⟨rfl, hb2⟩
        clear HG HD HFm g5
        go_wp2
        go_ret
        exact ⟨rfl, hb.drew.trans (hb2.mono hb.size)⟩
    · obtain ⟨k, rfl⟩ : ∃ k, i = k + 1 := ⟨i - 1, by omega⟩
      simp only [Nat.add_sub_cancel] at HP hcode
      have HM' := HM
      go_enter Tryd.func36, Tryd.ntmps36
      go_wp2_with fail
      refine HM.out.mono ?_
      rintro e w1 ⟨rfl, hb⟩
      clear d0 d1
      obtain ⟨d0, d1⟩ := HD.out w1 hb
      have dp := HP.out w1 hb (by omega)
      have HF1 := Hid.mk' (HFm.out w1.drew hb.drew)
      have g5 := (HG.out w1 hb).g5
      have g6 := (HG.out w1 hb).g6
      have hkl : (k : Int) < (l.length : Int) := by omega
      by_cases hle : qf ≤ pf
      · rw [if_pos ⟨by omega, hle⟩] at hcode
        subst hcode
        have hled : decide (qf ≤ pf) = true := decide_eq_true hle
        clear HG HD HFm HF1 HP g5 hle
        go_wp2
        go_region
        go_wp2
        go_ret
        exact ⟨rfl, hb.drew⟩
      · rw [if_neg (by omega)] at hcode
        have hled : decide (qf ≤ pf) = false := decide_eq_false hle
        clear g6 HP hle
        go_wp2
        go_region
        cases hf : fm
        · rw [hf] at hcode HF1
          rw [if_pos rfl] at hcode
          subst hcode
          go_wp2_with fail
          refine HF1.out.mono ?_
          rintro e w2 ⟨rfl, hb2⟩
          have g5' := (HG.out w2 (hb.drew.trans (hb2.mono hb.size))).g5
          clear HG HD HFm g5
          go_wp2
          go_ret
          exact ⟨rfl, hb.drew.trans (hb2.mono hb.size)⟩
        · rw [hf] at hcode HF1
          rw [if_neg (by decide)] at hcode
          subst hcode
          go_wp2_with fail
          refine HF1.out.mono ?_
          rintro e w2 ⟨rfl, hb2⟩
          clear HG HD HFm g5
          go_wp2
          go_ret
          exact ⟨rfl, hb.drew.trans (hb2.mono hb.size)⟩
set_option maxHeartbeats 1000000 in
theorem class_any (vr vc ve : Value) (l : List Rg) (r : Int) (w : World) (hT : Tab w vc l) (hl : l.length ≤ 2147483648) (hm : Rises l) (ha : Apart l) :
    Calls Tryd.prog 17 #[.agg #[vr, vc, ve], .int .i32 r] w fun e w' => e = .returned (.int .i64 (classOf l r)) ∧ Below w.heap.size w w' := by
  have hb0 : Below w.heap.size w (w.alloc (.cells #[vr, vc, ve] 26)) := (Below.refl _ w).alloc (Nat.le_refl _) _
  have HF := Hid.mk' (find_any vc l r (w.alloc (.cells #[vr, vc, ve] 26)) (hT.below hb0) hl hm ha)
  have HB := Hid.mk' hb0
  unfold foundV at HF
  unfold classOf
  generalize find l r = o at *
  generalize o.getD 0 = o1 at *
  generalize o.isSome = o2 at *
  obtain ⟨a, cap, rfl, -⟩ := hT
  clear hb0 hm ha
  go_enter Tryd.func17, Tryd.ntmps17
  go_wp2_with fail
  refine HF.out.mono ?_
  rintro e w1 ⟨rfl, hb⟩
  go_wp2
  go_ret
  exact ⟨rfl, HB.out.trans (hb.mono HB.out.size)⟩
end Go.Proofs.YtlnehhfljjeifaaDoor

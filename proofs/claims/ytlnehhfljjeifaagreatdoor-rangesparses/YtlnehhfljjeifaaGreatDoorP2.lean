/-
  What is proved here: what runeNumber, valueNumber, oneRune and fromTo answer at any text.
-/
import Derived.Test.YtlnehhfljjeifaaGreatDoorP1
import Derived.Test.YtlnehhfljjeifaaGreatDoorT3
namespace Go.Proofs.YtlnehhfljjeifaaGreatDoor
open Go.RowKit

theorem hexD_data : (⟨#[48, 49, 50, 51, 52, 53, 54, 55, 56, 57, 65, 66, 67, 68, 69, 70]⟩ : ByteArray).data.toList = hexD := rfl
theorem decD_data : (⟨#[48, 49, 50, 51, 52, 53, 54, 55, 56, 57]⟩ : ByteArray).data.toList = decD := rfl
set_option maxHeartbeats 1000000 in
theorem runeNumber_any (s : ByteArray) (w : World) :
    Calls Tryz.prog 50 #[.string s] w fun e w' => e = .returned (numV .i32 (numb hexD 4 6 s.data.toList)) ∧ Below w.heap.size w w' := by
  have H : Hid (Calls Tryz.prog 90 #[.string s, .string ⟨#[48, 49, 50, 51, 52, 53, 54, 55, 56, 57, 65, 66, 67, 68, 69, 70]⟩, .int .i64 4, .int .i64 6] w fun e w' => e = .returned (numV .i64 (numb hexD 4 6 s.data.toList)) ∧ Below w.heap.size w w') := number_any s ⟨#[48, 49, 50, 51, 52, 53, 54, 55, 56, 57, 65, 66, 67, 68, 69, 70]⟩ 4 6 w (by decide) (by decide) (by decide) (by decide)
  have hb : (numb hexD 4 6 s.data.toList).getD 0 < 16777216 := by
    cases h : numb hexD 4 6 s.data.toList with
    | none => simp
    | some m => exact numb_lt hexD 4 6 16 rfl (by decide) _ m h
  generalize numb hexD 4 6 s.data.toList = o at *
  unfold numV at H ⊢
  generalize o.getD 0 = m at *
  generalize o.isSome = q at *
  go_enter Tryz.func50, Tryz.ntmps50
  go_wp2_with fail
  refine H.out.mono ?_
  rintro e w1 ⟨rfl, hb1⟩
  go_wp2
  go_ret2
  exact ⟨rfl, hb1⟩
set_option maxHeartbeats 1000000 in
theorem valueNumber_any (s : ByteArray) (w : World) :
    Calls Tryz.prog 51 #[.string s] w fun e w' => e = .returned (numV .i64 (numb decD 1 7 s.data.toList)) ∧ Below w.heap.size w w' := by
  have H : Hid (Calls Tryz.prog 90 #[.string s, .string ⟨#[48, 49, 50, 51, 52, 53, 54, 55, 56, 57]⟩, .int .i64 1, .int .i64 7] w fun e w' => e = .returned (numV .i64 (numb decD 1 7 s.data.toList)) ∧ Below w.heap.size w w') := number_any s ⟨#[48, 49, 50, 51, 52, 53, 54, 55, 56, 57]⟩ 1 7 w (by decide) (by decide) (by decide) (by decide)
  generalize numb decD 1 7 s.data.toList = o at *
  unfold numV at H ⊢
  generalize o.getD 0 = m at *
  generalize o.isSome = q at *
  go_enter Tryz.func51, Tryz.ntmps51
  go_wp2_with fail
  refine H.out.mono ?_
  rintro e w1 ⟨rfl, hb1⟩
  go_wp2
  go_ret2
  exact ⟨rfl, hb1⟩
/-- that MaxLen is some number -/
def Ml (w : World) : Prop := ∃ m, w.cell? ⟨19, 0, none⟩ = some (.int .i64 m)
theorem Ml.below {w w' : World} (h : Ml w) (hb : Below w.heap.size w w') : Ml w' := by
  obtain ⟨m, h⟩ := h
  exact ⟨m, (hb.cell (p := ⟨19, 0, none⟩) (lt_of_cell h)).trans h⟩
theorem below_drewN (w : World) (n : Nat) : Below w.heap.size w (w.drewN n) := by
  exact ⟨rfl, rfl, rfl, Nat.le_refl _, fun _ _ => rfl⟩
theorem cut_any (s sep : ByteArray) (w : World) (hm : Ml w) (hs : s.size ≤ 2147483648) (x y : List UInt8) (b : Bool) (he : Lib.cut s.data.toList sep.data.toList = (x, y, b)) :
    Calls Tryz.prog 28 #[.string s, .string sep] w fun e w' => e = .returned (.tuple #[.string ⟨x.toArray⟩, .string ⟨y.toArray⟩, .bool b]) ∧ Below w.heap.size w w' := by
  obtain ⟨m, hm⟩ := hm
  refine (Tryz.strings_Cut s sep m w (by omega) hm).mono ?_
  rintro e w' ⟨rfl, n, rfl⟩
  rw [he]
  exact ⟨rfl, below_drewN w n⟩
set_option maxHeartbeats 1000000 in
theorem oneRune_any (s : ByteArray) (w : World) (hm : Ml w) (hs : s.size ≤ 2147483648) :
    Calls Tryz.prog 29 #[.string s] w fun e w' => e = .returned (.tuple #[(lineOne s.data.toList).1.v, .bool (lineOne s.data.toList).2]) ∧ Below w.heap.size w w' := by
  obtain ⟨x, y, b, he⟩ : ∃ x y b, Lib.cut s.data.toList [32] = (x, y, b) := ⟨_, _, _, rfl⟩
  have HC : Hid (∀ w', Below w.heap.size w w' → Calls Tryz.prog 28 #[.string s, .string ⟨#[32]⟩] w' fun e w'' => e = .returned (.tuple #[.string ⟨x.toArray⟩, .string ⟨y.toArray⟩, .bool b]) ∧ Below w'.heap.size w' w'') := fun w' hb => cut_any s ⟨#[32]⟩ w' (hm.below hb) hs x y b he
  unfold lineOne Rg.v
  rw [he]
  simp only []
  have HR : Hid (∀ w', Calls Tryz.prog 50 #[.string ⟨x.toArray⟩] w' fun e w'' => e = .returned (numV .i32 (numb hexD 4 6 x)) ∧ Below w'.heap.size w' w'') := fun w' => runeNumber_any ⟨x.toArray⟩ w'
  have HV : Hid (∀ w', Calls Tryz.prog 51 #[.string ⟨y.toArray⟩] w' fun e w'' => e = .returned (numV .i64 (numb decD 1 7 y)) ∧ Below w'.heap.size w' w'') := fun w' => valueNumber_any ⟨y.toArray⟩ w'
  generalize numb hexD 4 6 x = o at *
  generalize numb decD 1 7 y = q at *
  unfold numV at HR HV
  generalize o.getD 0 = o0 at *
  generalize q.getD 0 = q0 at *
  generalize o.isSome = o1 at *
  generalize q.isSome = q1 at *
  generalize (⟨x.toArray⟩ : ByteArray) = X at *
  generalize (⟨y.toArray⟩ : ByteArray) = Y at *
  clear he hm
  have hba : Below w.heap.size w (w.alloc (.cells #[.int .i32 0, .int .i32 0, .int .i64 0] 28)) := (Below.refl _ w).alloc (Nat.le_refl _) _
  have hcell := three_new w (.int .i32 0) (.int .i32 0) (.int .i64 0) 28
  have hsz : (w.alloc (.cells #[.int .i32 0, .int .i32 0, .int .i64 0] 28)).heap.size = w.heap.size + 1 := by simp
  go_enter Tryz.func29, Tryz.ntmps29
  go_wp2_with fail
  refine (HC.out _ hba).mono ?_
  rintro e w1 ⟨rfl, hb1⟩
  go_wp2_with fail
  refine (HR.out _).mono ?_
  rintro e w2 ⟨rfl, hb2⟩
  go_wp2_with fail
  refine (HV.out _).mono ?_
  rintro e w3 ⟨rfl, hb3⟩
  have hb13 : Below (w.alloc (.cells #[.int .i32 0, .int .i32 0, .int .i64 0] 28)).heap.size (w.alloc (.cells #[.int .i32 0, .int .i32 0, .int .i64 0] 28)) w3 := (hb1.trans (hb2.mono hb1.size)).trans (hb3.mono (Nat.le_trans hb1.size hb2.size))
  have h3 : w3.heap[w.heap.size]? = some (.cells #[.int .i32 0, .int .i32 0, .int .i64 0] 28 (0, 0)) := (hb13.block _ (by rw [hsz]; omega)).trans hcell
  obtain ⟨c0, c1, c2⟩ := three_cell h3
  obtain ⟨f0, f1, f2⟩ := three_free h3
  obtain ⟨W, hW, hWb, hWB, -, -⟩ := three_store (.int .i32 o0) (.int .i32 o0) (.int .i64 q0) h3
  have hbw : Below w.heap.size w W := (hba.trans (hb13.mono hba.size)).trans hWB
  obtain ⟨d0, d1, d2⟩ := three_cell hWb
  clear h3 hWB hWb
  cases o1
  all_goals
    go_wp2
    rw [← hW]
    clear hW c0 c1 c2
    refine bodyPost_ret (v := .tuple #[.agg #[.int .i32 o0, .int .i32 o0, .int .i64 q0], _]) (by simp [results, Tryz.f29, go_sem, d0, d1, d2]; rfl) rfl ?_
    exact ⟨rfl, hbw⟩
end Go.Proofs.YtlnehhfljjeifaaGreatDoor

/-
  What is proved here: what fromTo answers at any text.
-/
import Derived.Test.YtlnehhfljjeifaaGreatDoorP2
namespace Go.Proofs.YtlnehhfljjeifaaGreatDoor
open Go.RowKit

set_option maxHeartbeats 2000000 in
theorem fromTo_any (s : ByteArray) (w : World) (hm : Ml w) (hs : s.size ≤ 2147483648) :
    Calls Tryz.prog 30 #[.string s] w fun e w' => e = .returned (.tuple #[(lineTwo s.data.toList).1.v, .bool (lineTwo s.data.toList).2]) ∧ Below w.heap.size w w' := by
  obtain ⟨x, y, b, he⟩ : ∃ x y b, Lib.cut s.data.toList [32] = (x, y, b) := ⟨_, _, _, rfl⟩
  obtain ⟨x1, x2, b2, he2⟩ : ∃ x1 x2 b2, Lib.cut x [46, 46] = (x1, x2, b2) := ⟨_, _, _, rfl⟩
  have hxs : x.length ≤ 2147483648 := by have := (cut_le s.data.toList [32]).1; rw [he] at this; exact Nat.le_trans this hs
  have HC : Hid (∀ w', Below w.heap.size w w' → Calls Tryz.prog 28 #[.string s, .string ⟨#[32]⟩] w' fun e w'' => e = .returned (.tuple #[.string ⟨x.toArray⟩, .string ⟨y.toArray⟩, .bool b]) ∧ Below w'.heap.size w' w'') := fun w' hb => cut_any s ⟨#[32]⟩ w' (hm.below hb) hs x y b he
  have HC2 : Hid (∀ w', Below w.heap.size w w' → Calls Tryz.prog 28 #[.string ⟨x.toArray⟩, .string ⟨#[46, 46]⟩] w' fun e w'' => e = .returned (.tuple #[.string ⟨x1.toArray⟩, .string ⟨x2.toArray⟩, .bool b2]) ∧ Below w'.heap.size w' w'') := fun w' hb => cut_any ⟨x.toArray⟩ ⟨#[46, 46]⟩ w' (hm.below hb) (by simpa [ByteArray.size] using hxs) x1 x2 b2 he2
  unfold lineTwo Rg.v
  rw [he]
  simp only []
  rw [he2]
  simp only []
  have HR : Hid (∀ w', Calls Tryz.prog 50 #[.string ⟨x1.toArray⟩] w' fun e w'' => e = .returned (numV .i32 (numb hexD 4 6 x1)) ∧ Below w'.heap.size w' w'') := fun w' => runeNumber_any ⟨x1.toArray⟩ w'
  have HR2 : Hid (∀ w', Calls Tryz.prog 50 #[.string ⟨x2.toArray⟩] w' fun e w'' => e = .returned (numV .i32 (numb hexD 4 6 x2)) ∧ Below w'.heap.size w' w'') := fun w' => runeNumber_any ⟨x2.toArray⟩ w'
  have HV : Hid (∀ w', Calls Tryz.prog 51 #[.string ⟨y.toArray⟩] w' fun e w'' => e = .returned (numV .i64 (numb decD 1 7 y)) ∧ Below w'.heap.size w' w'') := fun w' => valueNumber_any ⟨y.toArray⟩ w'
  generalize numb hexD 4 6 x1 = o at *
  generalize numb hexD 4 6 x2 = p at *
  generalize numb decD 1 7 y = q at *
  unfold numV at HR HR2 HV
  generalize o.getD 0 = o0 at *
  generalize p.getD 0 = p0 at *
  generalize q.getD 0 = q0 at *
  generalize o.isSome = o1 at *
  generalize p.isSome = p1 at *
  generalize q.isSome = q1 at *
  generalize (⟨x.toArray⟩ : ByteArray) = X at *
  generalize (⟨x1.toArray⟩ : ByteArray) = X1 at *
  generalize (⟨x2.toArray⟩ : ByteArray) = X2 at *
  generalize (⟨y.toArray⟩ : ByteArray) = Y at *
  clear he he2 hm hxs
  have hba : Below w.heap.size w (w.alloc (.cells #[.int .i32 0, .int .i32 0, .int .i64 0] 28)) := (Below.refl _ w).alloc (Nat.le_refl _) _
  have hcell := three_new w (.int .i32 0) (.int .i32 0) (.int .i64 0) 28
  have hsz : (w.alloc (.cells #[.int .i32 0, .int .i32 0, .int .i64 0] 28)).heap.size = w.heap.size + 1 := by simp
  go_enter Tryz.func30, Tryz.ntmps30
  go_wp2_with fail
  refine (HC.out _ hba).mono ?_
  rintro e w1 ⟨rfl, hb1⟩
  go_wp2_with fail
  refine (HC2.out _ (hba.trans (hb1.mono hba.size))).mono ?_
  rintro e w2 ⟨rfl, hb2⟩
  go_wp2_with fail
  refine (HR.out _).mono ?_
  rintro e w3 ⟨rfl, hb3⟩
  go_wp2_with fail
  refine (HR2.out _).mono ?_
  rintro e w4 ⟨rfl, hb4⟩
  go_wp2_with fail
  refine (HV.out _).mono ?_
  rintro e w5 ⟨rfl, hb5⟩
  have hb12 := hb1.trans (hb2.mono hb1.size)
  have hb13 := hb12.trans (hb3.mono hb12.size)
  have hb14 := hb13.trans (hb4.mono hb13.size)
  have hb15 := hb14.trans (hb5.mono hb14.size)
  clear hb12 hb13 hb14 hb1 hb2 hb3 hb4 hb5
  have h3 : w5.heap[w.heap.size]? = some (.cells #[.int .i32 0, .int .i32 0, .int .i64 0] 28 (0, 0)) := (hb15.block _ (by rw [hsz]; omega)).trans hcell
  obtain ⟨c0, c1, c2⟩ := three_cell h3
  obtain ⟨f0, f1, f2⟩ := three_free h3
  obtain ⟨W, hW, hWb, hWB, -, -⟩ := three_store (.int .i32 o0) (.int .i32 p0) (.int .i64 q0) h3
  have hbw : Below w.heap.size w W := (hba.trans (hb15.mono hba.size)).trans hWB
  obtain ⟨d0, d1, d2⟩ := three_cell hWb
  clear h3 hWB hWb hb15
  have hcase : (p0 = o0) ∨ (p0 ≠ o0 ∧ ((p0 : Int) == (o0 : Int)) = false) := by
    by_cases h : p0 = o0
    · exact .inl h
    · exact .inr ⟨h, by simp; omega⟩
  cases o1
  · go_wp2
    rw [← hW]
    clear hW c0 c1 c2
    refine bodyPost_ret (v := .tuple #[.agg #[.int .i32 o0, .int .i32 p0, .int .i64 q0], .bool false]) (by simp [results, Tryz.f30, go_sem, d0, d1, d2]) rfl ?_
    exact ⟨by simp, hbw⟩
  cases p1
  · go_wp2
    rw [← hW]
    clear hW c0 c1 c2
    refine bodyPost_ret (v := .tuple #[.agg #[.int .i32 o0, .int .i32 p0, .int .i64 q0], .bool false]) (by simp [results, Tryz.f30, go_sem, d0, d1, d2]) rfl ?_
    exact ⟨by simp, hbw⟩
  cases q1
  · go_wp2
    rw [← hW]
    clear hW c0 c1 c2
    refine bodyPost_ret (v := .tuple #[.agg #[.int .i32 o0, .int .i32 p0, .int .i64 q0], .bool false]) (by simp [results, Tryz.f30, go_sem, d0, d1, d2]) rfl ?_
    exact ⟨by simp, hbw⟩
  rcases hcase with rfl | ⟨hne, hne2⟩
  · go_wp2
    rw [← hW]
    clear hW c0 c1 c2
    refine bodyPost_ret (v := .tuple #[.agg #[.int .i32 p0, .int .i32 p0, .int .i64 q0], .bool false]) (by simp [results, Tryz.f30, go_sem, d0, d1, d2]) rfl ?_
    exact ⟨by simp, hbw⟩
  · go_wp2
    rw [← hW]
    clear hW c0 c1 c2
    refine bodyPost_ret (v := .tuple #[.agg #[.int .i32 o0, .int .i32 p0, .int .i64 q0], .bool true]) (by simp [results, Tryz.f30, go_sem, d0, d1, d2]; omega) rfl ?_
    exact ⟨by simp [hne], hbw⟩
end Go.Proofs.YtlnehhfljjeifaaGreatDoor

/-
  What is proved here: what the reference's Line answers.
-/
import Derived.Test.YtlnehhfljjeifaaGreatDoorD2
namespace Go.Proofs.YtlnehhfljjeifaaGreatDoor
open Go.RowKit

theorem boxed (w w1 : World) (x y z : Value) (t : TypeId) (hb : Below (w.alloc (.cells #[x, y, z] t)).heap.size (w.alloc (.cells #[x, y, z] t)) w1) :
    w1.cell? ⟨w.heap.size, 0, none⟩ = some x ∧ w1.cell? ⟨w.heap.size, 1, none⟩ = some y ∧ w1.cell? ⟨w.heap.size, 2, none⟩ = some z := by
  refine ⟨?_, ?_, ?_⟩
  all_goals
    refine (hb.cell (by simp)).trans ?_
    simp
set_option maxHeartbeats 2000000 in
set_option maxRecDepth 20000 in
theorem refLine_any (r : Rg) (w : World) (h : r.may = true) :
    Calls Tryz.prog 9 #[r.v] w fun e w' => e = .returned (.string (strL (lineT r))) ∧ Below w.heap.size w w' := by
  obtain ⟨h1, h2, h3, h4, h5⟩ := r.may_iff.1 h
  clear h
  obtain ⟨lo, hi, val⟩ := r
  obtain ⟨a, rfl⟩ : ∃ a : Nat, lo = a := ⟨lo.toNat, by simp at h1; omega⟩
  obtain ⟨b, rfl⟩ : ∃ b : Nat, hi = b := ⟨hi.toNat, by simp at h1 h2; omega⟩
  obtain ⟨c, rfl⟩ : ∃ c : Nat, val = c := ⟨val.toNat, by simp at h4; omega⟩
  simp only at h1 h2 h3 h4 h5
  have hA : (hexT a).length ≤ 8 := hexT_len8 a (by omega)
  have hB : (hexT b).length ≤ 8 := hexT_len8 b (by omega)
  have hC : (digs 10 8 c).length ≤ 8 := digs_len8 10 c (by omega) (by omega)
  have HL : Hid (lineT ⟨a, b, c⟩ = hexT a ++ (if b = a then [] else [46, 46] ++ hexT b) ++ [32] ++ digs 10 8 c) := Hid.mk' (by
    unfold lineT decT
    simp only [Int.toNat_natCast]
    congr 3
    by_cases e : b = a
    · simp [e]
    · have e2 : ¬ (b : Int) = a := by omega
      simp [e, e2])
  have HX : Hid (∀ w, _) := fun w => refHex_any a w (by omega)
  have HY : Hid (∀ w, _) := fun w => refHex_any b w (by omega)
  have HZ : Hid (∀ w, Calls Tryz.prog 27 #[.int .i64 c, .int .i64 10] w fun e w' => e = .returned (.string (strL (digs 10 8 c))) ∧ Below w.heap.size w w') := fun w => refDigits_any 10 c w (.inl rfl) (by omega)
  have za := strL_size (hexT a)
  have zb := strL_size (hexT b)
  have zc := strL_size (digs 10 8 c)
  have HS : Hid (strL (lineT ⟨a, b, c⟩) = if b = a then strL (hexT a) ++ ⟨#[32]⟩ ++ strL (digs 10 8 c) else strL (hexT a) ++ ⟨#[46, 46]⟩ ++ strL (hexT b) ++ ⟨#[32]⟩ ++ strL (digs 10 8 c)) := Hid.mk' (by
    rw [HL.out]
    by_cases e : b = a
    · rw [if_pos e, if_pos e]
      rw [show (⟨#[32]⟩ : ByteArray) = strL [32] from rfl, strL_append, strL_append]
      simp
    · rw [if_neg e, if_neg e]
      rw [show (⟨#[32]⟩ : ByteArray) = strL [32] from rfl, show (⟨#[46, 46]⟩ : ByteArray) = strL [46, 46] from rfl]
      simp only [strL_append]
      simp)
  generalize lineT ⟨a, b, c⟩ = L at HS
  clear HL
  generalize strL L = LL at *
  generalize strL (hexT a) = A at *
  generalize strL (hexT b) = B at *
  generalize strL (digs 10 8 c) = C at *
  generalize hexT a = A' at *
  generalize hexT b = B' at *
  generalize digs 10 8 c = C' at *
  have z32 : (⟨#[32]⟩ : ByteArray).size = 1 := rfl
  have z46 : (⟨#[46, 46]⟩ : ByteArray).size = 2 := rfl
  have HB := Hid.mk' (boxed w)
  have HW : Hid (Below w.heap.size w (w.alloc (.cells #[.int .i32 a, .int .i32 b, .int .i64 c] 28))) := (Below.refl _ _).alloc (Nat.le_refl _) _
  show Calls Tryz.prog 9 #[.agg #[.int .i32 a, .int .i32 b, .int .i64 c]] w _
  by_cases e : b = a
  · have HS2 : Hid (LL = A ++ ⟨#[32]⟩ ++ C) := Hid.mk' (by rw [HS.out, if_pos e])
    clear HS HY
    subst e
    go_enter Tryz.func9, Tryz.ntmps9
    go_wp2_with fail
    refine (HX.out _).mono ?_
    rintro e1 w1 ⟨rfl, hb1⟩
    obtain ⟨c0, c1, c2⟩ := HB.out w1 _ _ _ _ hb1
    have hb2 := HW.out.trans (hb1.mono HW.out.size)
    clear hb1
    go_wp2_with fail
    refine (HZ.out _).mono ?_
    rintro e1 w2 ⟨rfl, hb3⟩
    have hb4 := hb2.trans (hb3.mono hb2.size)
    go_wp2
    go_ret
    rw [HS2.out]
    exact ⟨rfl, hb4⟩
  · have HS2 : Hid (LL = A ++ ⟨#[46, 46]⟩ ++ B ++ ⟨#[32]⟩ ++ C) := Hid.mk' (by rw [HS.out, if_neg e])
    have e1 : (((b : Nat) : Int) == ((a : Nat) : Int)) = false := by simp; omega
    clear HS
    go_enter Tryz.func9, Tryz.ntmps9
    go_wp2_with fail
    refine (HX.out _).mono ?_
    rintro e1 w1 ⟨rfl, hb1⟩
    obtain ⟨c0, c1, c2⟩ := HB.out w1 _ _ _ _ hb1
    go_wp2_with fail
    refine (HY.out _).mono ?_
    rintro e1 w2 ⟨rfl, hb3⟩
    have hb5 := hb1.trans (hb3.mono hb1.size)
    obtain ⟨d0, d1, d2⟩ := HB.out w2 _ _ _ _ hb5
    have hb2 := HW.out.trans (hb5.mono HW.out.size)
    clear c0 c1 c2 hb1 hb3 hb5
    go_wp2_with fail
    refine (HZ.out _).mono ?_
    rintro e1 w3 ⟨rfl, hb6⟩
    have hb4 := hb2.trans (hb6.mono hb2.size)
    go_wp2
    go_ret
    rw [HS2.out]
    exact ⟨rfl, hb4⟩
end Go.Proofs.YtlnehhfljjeifaaGreatDoor

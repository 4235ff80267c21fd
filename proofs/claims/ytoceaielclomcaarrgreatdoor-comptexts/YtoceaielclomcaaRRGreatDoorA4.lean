/-
  What is proved here: what faultOf, Class and syllable answer.
-/
import Derived.Test.YtoceaielclomcaaRRGreatDoorA3
import Derived.Maps.AppendAt
namespace Go.Proofs.YtoceaielclomcaaRRGreatDoor
open Go.RowKit

/-- the fault of the row number i by itself, and by the one ahead -/
def faultCode (l : List Rw) (i : Nat) : Nat :=
  if mayR (rw_ l i).fr = false then 4 else if 0 < i ∧ (rw_ l i).fr ≤ (rw_ l (i - 1)).fr then 6 else if formedR (rw_ l i) = false then 5 else 0
/-- is a row's second rune a row's From, or its chain too long? -/
def deepR (l : List Rw) (i : Nat) : Prop := ((rw_ l i).to.length = 2 ∧ (l.any fun x => x.fr == (rw_ l i).to1) = true) ∨ 8 < 1 + chainIn l i (rw_ l i).to0
theorem rowCode_fault {l : List Rw} {i : Nat} (h : faultCode l i ≠ 0) : rowCode l i = faultCode l i := by
  unfold faultCode rowCode at *
  (repeat' split at h) <;> simp_all
theorem rowCode_deep {l : List Rw} {i : Nat} (h : faultCode l i = 0) (hd : deepR l i) : rowCode l i = 9 := by
  unfold faultCode at h
  unfold rowCode
  by_cases h1 : mayR (rw_ l i).fr = false
  · rw [if_pos h1] at h; omega
  · rw [if_neg h1] at h ⊢
    by_cases h2 : 0 < i ∧ (rw_ l i).fr ≤ (rw_ l (i - 1)).fr
    · rw [if_pos h2] at h; omega
    · rw [if_neg h2] at h ⊢
      by_cases h3 : formedR (rw_ l i) = false
      · rw [if_pos h3] at h; omega
      · rw [if_neg h3]
        exact if_pos hd
theorem rowCode_none {l : List Rw} {i : Nat} (h : faultCode l i = 0) (hd : ¬ deepR l i) : rowCode l i = 0 := by
  unfold faultCode at h
  unfold rowCode
  by_cases h1 : mayR (rw_ l i).fr = false
  · rw [if_pos h1] at h; omega
  · rw [if_neg h1] at h ⊢
    by_cases h2 : 0 < i ∧ (rw_ l i).fr ≤ (rw_ l (i - 1)).fr
    · rw [if_pos h2] at h; omega
    · rw [if_neg h2] at h ⊢
      by_cases h3 : formedR (rw_ l i) = false
      · rw [if_pos h3] at h; omega
      · rw [if_neg h3]
        exact if_neg hd
theorem faultCode_zero {l : List Rw} {i : Nat} (h : faultCode l i = 0) : mayR (rw_ l i).fr = true ∧ (0 < i → (rw_ l (i - 1)).fr < (rw_ l i).fr) ∧ formedR (rw_ l i) = true := by
  unfold faultCode at h
  split at h
  · omega
  · rename_i h1
    split at h
    · omega
    · rename_i h2
      split at h
      · omega
      · rename_i h3
        exact ⟨by simpa using h1, fun h0 => by omega, by simpa using h3⟩
set_option maxHeartbeats 1000000 in
theorem class_any (vr vc ve : Value) (l : List Rg) (r : Int) (w : World) (hT : Tab w vc l) (hl : l.length ≤ 2147483648) (hm : Rises l) (ha : Apart l) :
    Calls Tryz.prog 124 #[.agg #[vr, vc, ve], .int .i32 r] w fun e w' => e = .returned (.int .i64 (classOf l r)) ∧ Below w.heap.size w w' := by
  have hb0 : Below w.heap.size w (w.alloc (.cells #[vr, vc, ve] 39)) := (Below.refl _ w).alloc (Nat.le_refl _) _
  have HF := Hid.mk' (find_any vc l r (w.alloc (.cells #[vr, vc, ve] 39)) (hT.below hb0) hl hm ha)
  have HB := Hid.mk' hb0
  unfold foundV at HF
  unfold classOf
  generalize find l r = o at *
  generalize o.getD 0 = o1 at *
  generalize o.isSome = o2 at *
  obtain ⟨a, cap, rfl, -⟩ := hT
  clear hb0 hm ha
  go_enter Tryz.func124, Tryz.ntmps124
  go_wp2_with fail
  refine HF.out.mono ?_
  rintro e w1 ⟨rfl, hb⟩
  go_wp2
  go_ret
  exact ⟨rfl, HB.out.trans (hb.mono HB.out.size)⟩
end Go.Proofs.YtoceaielclomcaaRRGreatDoor

/-
  What is proved here: plain mathematics that DecompAlls wants: classes are at most 254; how long runes taken apart are.
-/
import Derived.Test.YtojpkkbagcahdaaDoorSb
namespace Go.Proofs.YtojpkkbagcahdaaDoor

theorem class_254 {l : List Rg} (h : ∀ i, i < l.length → clsCode l i = 0) (r : Int) : classOf l r ≤ 254 := by
  unfold classOf find
  cases hf : l.find? fun x => decide (x.lo ≤ r) && decide (r ≤ x.hi) with
  | none => simp
  | some x =>
    have hm := List.mem_of_find?_eq_some hf
    obtain ⟨i, hi, rfl⟩ := List.mem_iff_getElem.1 hm
    have := h i hi
    unfold clsCode at this
    have e : l.getD i default = l[i] := by simp [List.getD, List.getElem?_eq_getElem hi]
    rw [e] at this
    simp only [Option.map_some, Option.getD_some]
    split at this
    · omega
    · cases this
theorem apart_len {rows : List Rw} (hc : ∀ i, i < rows.length → rowCode rows i = 0) (l : List Int) : (apartM rows l).length ≤ l.length * (rows.length + 3) := by
  induction l with
  | nil => simp [apartM]
  | cons x l ih =>
    have e : apartM rows (x :: l) = oneM rows x ++ apartM rows l := by unfold apartM; rw [List.flatMap_cons]
    have := oneM_len hc x
    rw [e, List.length_append, List.length_cons, Nat.succ_mul]
    omega
end Go.Proofs.YtojpkkbagcahdaaDoor

/-
  What is proved here: what formed, faultOf and Class answer.
-/
import Derived.Test.YtoceaielclomcaaRRGreatDoorA2
namespace Go.Proofs.YtoceaielclomcaaRRGreatDoor
open Go.RowKit

theorem formed_len {x : Rw} (h : ¬ (x.to.length = 1 ∨ x.to.length = 2)) : formedR x = false := by
  unfold formedR; rw [decide_eq_false h]; rfl
theorem formed_ge {x : Rw} (h : x.fr ≤ x.to0) : formedR x = false := by
  unfold formedR; rw [decide_eq_false (p := x.to0 < x.fr) (by omega)]; simp
theorem formed_not {x : Rw} {k : Nat} (hk : k < x.to.length) (h : mayR (x.to.getD k 0) = false) : formedR x = false := by
  unfold formedR
  rw [Bool.and_eq_false_iff]
  right
  rw [List.all_eq_false]
  refine ⟨x.to.getD k 0, ?_, by simpa using h⟩
  rw [List.getD, List.getElem?_eq_getElem hk]
  exact List.getElem_mem hk
theorem formed_yes {x : Rw} (h1 : x.to.length = 1 ∨ x.to.length = 2) (h2 : x.to0 < x.fr) (h : ∀ k, k < x.to.length → mayR (x.to.getD k 0) = true) : formedR x = true := by
  unfold formedR
  rw [decide_eq_true h1, decide_eq_true h2]
  simp only [Bool.true_and]
  rw [List.all_eq_true]
  intro r hr
  obtain ⟨k, hk, rfl⟩ := List.mem_iff_getElem.1 hr
  have := h k hk
  rwa [List.getD, List.getElem?_eq_getElem hk] at this
end Go.Proofs.YtoceaielclomcaaRRGreatDoor

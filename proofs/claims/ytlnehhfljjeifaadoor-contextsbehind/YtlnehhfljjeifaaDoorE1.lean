/-
  What is proved here: what the reference's row answers, where the rows ahead are right.
-/
import Derived.Test.YtlnehhfljjeifaaDoorE0
namespace Go.Proofs.YtlnehhfljjeifaaDoor
open Go.RowKit

theorem row4 {l : List Rw} {i : Nat} (h : mayR (rw_ l i).fr = false) : rowCode l i = 4 := by unfold rowCode; rw [if_pos h]
theorem row6 {l : List Rw} {i : Nat} (h1 : mayR (rw_ l i).fr = true) (h2 : 0 < i ∧ (rw_ l i).fr ≤ (rw_ l (i - 1)).fr) : rowCode l i = 6 := by
  unfold rowCode; rw [if_neg (by rw [h1]; decide), if_pos h2]
theorem row5 {l : List Rw} {i : Nat} (h1 : mayR (rw_ l i).fr = true) (h2 : ¬ (0 < i ∧ (rw_ l i).fr ≤ (rw_ l (i - 1)).fr)) (h3 : formedR (rw_ l i) = false) : rowCode l i = 5 := by
  unfold rowCode; rw [if_neg (by rw [h1]; decide), if_neg h2, if_pos h3]
theorem fault0 {l : List Rw} {i : Nat} (h1 : mayR (rw_ l i).fr = true) (h2 : ¬ (0 < i ∧ (rw_ l i).fr ≤ (rw_ l (i - 1)).fr)) (h3 : formedR (rw_ l i) = true) : faultCode l i = 0 := by
  unfold faultCode; rw [if_neg (by rw [h1]; decide), if_neg h2, if_neg (by rw [h3]; decide)]
theorem any_rows {l : List Rw} {x y : Int} (h : Sought l.length (fun i => (rw_ l i).fr) x y) : decide (0 ≤ y) = l.any fun z => z.fr == x := by
  rcases h with ⟨k, rfl, hk, e⟩ | ⟨rfl, h⟩
  · rw [List.any_eq_true.2]
    · simp
    · refine ⟨rw_ l k, ?_, by simpa using e⟩
      unfold rw_
      rw [List.getD, List.getElem?_eq_getElem hk]
      exact List.getElem_mem hk
  · rw [List.any_eq_false.2]
    · rfl
    · intro z hz
      obtain ⟨k, hk, rfl⟩ := List.mem_iff_getElem.1 hz
      have := h k hk
      simp only [rw_, List.getD, List.getElem?_eq_getElem hk, Option.getD_some] at this
      simpa using this
theorem chain_sought {l : List Rw} {k : Nat} {x : Int} (hr : RiseR l k) (h : Sought k (fun j => (rw_ l j).fr) (rw_ l k).to0 x) : (x = -1 ∧ chainAt l k = 1) ∨ ∃ j : Nat, x = j ∧ j < k ∧ chainAt l k = 1 + chainAt l j := by
  rcases h with ⟨j, rfl, hj, e⟩ | ⟨rfl, h⟩
  · exact .inr ⟨j, rfl, hj, by unfold chainAt; rw [chain_hit l k j _ hj hr e]⟩
  · exact .inl ⟨rfl, by unfold chainAt; rw [chain_miss l k _ h]⟩
end Go.Proofs.YtlnehhfljjeifaaDoor

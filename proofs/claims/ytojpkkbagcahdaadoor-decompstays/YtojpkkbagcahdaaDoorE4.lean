/-
  What is proved here: what the reference's One answers at a norm whose rows are right.
-/
import Derived.Test.YtojpkkbagcahdaaDoorA0
namespace Go.Proofs.YtojpkkbagcahdaaDoor
open Go.RowKit

theorem one_less (l : List Rw) (x : Int) (i n : Nat) (hin : i ≤ n) (h : ∀ j, i ≤ j → j < n → (rw_ l j).fr ≠ x) : oneIn l n x = oneIn l i x := by
  induction n with
  | zero =>
    obtain rfl : i = 0 := by omega
    rfl
  | succ n ih =>
    rcases Nat.eq_or_lt_of_le hin with rfl | g
    · rfl
    · rw [oneIn_succ, if_neg (h n (by omega) (by omega))]
      exact ih (by omega) fun j h1 h2 => h j h1 (by omega)
theorem one_len (l : List Rw) (h2 : ∀ i, i < l.length → (rw_ l i).to.length ≤ 2) (k : Nat) (r : Int) (hk : k ≤ l.length) : (oneIn l k r).length ≤ k + 1 := by
  induction k generalizing r with
  | zero => simp [oneIn]
  | succ k ih =>
    rw [oneIn_succ]
    split
    · have := ih (rw_ l k).to0 (by omega)
      have := h2 k (by omega)
      simp only [List.length_append, List.length_drop]
      omega
    · have := ih r (by omega)
      omega
theorem row_len {l : List Rw} (hc : ∀ i, i < l.length → rowCode l i = 0) : ∀ i, i < l.length → (rw_ l i).to.length = 1 ∨ (rw_ l i).to.length = 2 := fun i hi => (formed_parts (rowCode_zero (hc i hi)).2.2.1).1
theorem oneM_len {l : List Rw} (hc : ∀ i, i < l.length → rowCode l i = 0) (r : Int) : (oneM l r).length ≤ l.length + 3 := by
  unfold oneM
  split
  · unfold sylM
    split <;> simp
  · have := one_len l (fun i hi => by have := row_len hc i hi; omega) l.length r (Nat.le_refl _)
    omega
theorem row_less {l : List Rw} (hc : ∀ i, i < l.length → rowCode l i = 0) {i : Nat} (hi : i < l.length) : ∀ j, i ≤ j → j < l.length → (rw_ l j).fr ≠ (rw_ l i).to0 := fun j h1 h2 => by
  have h3 := (formed_parts (rowCode_zero (hc i hi)).2.2.1).2.1
  rcases Nat.eq_or_lt_of_le h1 with rfl | g
  · omega
  · have := rise_of hc i j g h2
    omega
theorem oneM_row {l : List Rw} (hc : ∀ i, i < l.length → rowCode l i = 0) {i : Nat} (hi : i < l.length) {r : Int} (hs : isSyl r = false) (e : (rw_ l i).fr = r) : oneM l r = oneM l (rw_ l i).to0 ++ (rw_ l i).to.drop 1 := by
  have hns : isSyl (rw_ l i).to0 = false := hang_syl (may_right (formed_parts (rowCode_zero (hc i hi)).2.2.1).2.2.1).2
  unfold oneM
  rw [hs, hns]
  simp only [Bool.false_eq_true, if_false]
  rw [one_hit l l.length i r hi (rise_of hc) e, one_less l _ i l.length (by omega) (row_less hc hi)]
theorem oneM_none {l : List Rw} {r : Int} (hs : isSyl r = false) (h : ∀ i, i < l.length → (rw_ l i).fr ≠ r) : oneM l r = [r] := by
  unfold oneM
  rw [hs]
  simp only [Bool.false_eq_true, if_false]
  exact one_miss l _ r h
theorem drop_two {x : Rw} (h2 : x.to.length = 2) : x.to.drop 1 = [x.to1] := by
  obtain ⟨q0, q1, hq⟩ : ∃ q0 q1, x.to = [q0, q1] := by
    match x.to, h2 with
    | [q0, q1], _ => exact ⟨q0, q1, rfl⟩
  unfold Rw.to1; rw [hq]; rfl
end Go.Proofs.YtojpkkbagcahdaaDoor

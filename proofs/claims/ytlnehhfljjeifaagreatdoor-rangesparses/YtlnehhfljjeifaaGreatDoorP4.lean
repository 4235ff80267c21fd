/-
  What is proved here: what Parse answers at any text.
-/
import Derived.Test.YtlnehhfljjeifaaGreatDoorP3
import Derived.Test.YtlnehhfljjeifaaGreatDoorR3
namespace Go.Proofs.YtlnehhfljjeifaaGreatDoor
open Go.RowKit

theorem Tryz.infoRange : (Tryz.prog.info? 28).map (fun i => (i.zero, i.size, i.bytes)) = some (some (.agg #[.int .i32 0, .int .i32 0, .int .i64 0]), 3, 16) := by kernel_rfl
/-- the cells of ranges, one behind the other -/
def cellsOf (l : List Rg) : List Value := l.flatMap Rg.cells
theorem cellsOf_len (l : List Rg) : (cellsOf l).length = l.length * 3 := by
  induction l with
  | nil => rfl
  | cons r t ih => simp [cellsOf, Rg.cells] at *; omega
theorem cellsOf_at (l : List Rg) (j i : Nat) (hj : j < l.length) (hi : i < 3) : (cellsOf l)[j * 3 + i]? = (l.getD j default).cells[i]? := by
  induction l generalizing j with
  | nil => simp at hj
  | cons r t ih =>
    have e : cellsOf (r :: t) = r.cells ++ cellsOf t := rfl
    rw [e]
    cases j with
    | zero =>
      rw [List.getElem?_append_left (by simp [Rg.cells]; omega)]
      simp
    | succ j =>
      rw [List.getElem?_append_right (by simp [Rg.cells]; omega)]
      have e2 : (j + 1) * 3 + i - r.cells.length = j * 3 + i := by simp [Rg.cells]; omega
      rw [e2, ih j (by simpa using hj)]
      simp
theorem cellsOf_snoc (l : List Rg) (r : Rg) : cellsOf (l ++ [r]) = cellsOf l ++ r.cells := by simp [cellsOf]
theorem cellsOf_one (l : List Rg) : ∀ u ∈ cellsOf l, u.oneCell' = true := by
  intro u hu
  obtain ⟨r, _, h⟩ := List.mem_flatMap.1 hu
  simp [Rg.cells] at h
  rcases h with rfl | rfl | rfl <;> rfl
theorem Tab.own {w : World} {B : Nat} {v : Value} {l : List Rg} (h : w.ownsRow B 28 3 v l.length (cellsOf l)) : Tab w v l := by
  rcases h.2 with ⟨rfl, h0⟩ | ⟨g, cap, cur, rfl, _, _⟩
  · exact ⟨none, 0, by rw [h0], fun j hj => by omega⟩
  · refine ⟨some ⟨g, 0, none⟩, cap, rfl, fun j hj => ⟨g, 0, rfl, fun i hi => ?_⟩⟩
    rw [← cellsOf_at l j i hj hi, Nat.zero_add]
    have := h.cellAt (j * 3 + i) (by omega)
    rw [this]
end Go.Proofs.YtlnehhfljjeifaaGreatDoor

/-
  What is proved here: what the reference's Right, hangul, Row, ahead, excluded and Class answer.
-/
import Derived.Test.YtlnehhfljjeifaaDoorA8
import Derived.Test.YtlnehhfljjeifaaDoorA7
namespace Go.Proofs.YtlnehhfljjeifaaDoor
open Go.RowKit

theorem sought_at {n k : Nat} {key : Nat → Int} {r : Int} (hk : k < n) (h : key k = r) : Sought n key r k := .inl ⟨k, rfl, hk, h⟩
theorem next_no {k : Nat} {key : Nat → Int} {r : Int} (h : ∀ i, i < k → key i ≠ r) (hn : key k ≠ r) : ∀ i, i < k + 1 → key i ≠ r := fun i hi => by
  rcases Nat.lt_or_ge i k with g | g
  · exact h i g
  · obtain rfl : i = k := by omega
    exact hn
/-- a norm's cells in new memory -/
theorem norm_box (w : World) (vr vc ve : Value) : ∃ W0, w.alloc (.cells #[vr, vc, ve] 26) = W0 ∧ W0.heap.size = w.heap.size + 1 ∧ Below w.heap.size w W0 ∧ W0.cell? ⟨w.heap.size, 0, none⟩ = some vr ∧ W0.cell? ⟨w.heap.size, 1, none⟩ = some vc ∧ W0.cell? ⟨w.heap.size, 2, none⟩ = some ve :=
  ⟨_, rfl, by rw [World.size_alloc], (Below.refl _ w).alloc (Nat.le_refl _) _, by rw [World.cell?_alloc_new]; rfl, by rw [World.cell?_alloc_new]; rfl, by rw [World.cell?_alloc_new]; rfl⟩
end Go.Proofs.YtlnehhfljjeifaaDoor

/-
  What is proved here: what utf.Right, hasHangul, mayStand, formed, fromOf and itself answer; rows in memory.
-/
import Derived.Test.YtcklfcoobccgcaaDoorA0
import Derived.Test.YtcklfcoobccgcaaDoorBase
namespace Go.Proofs.YtcklfcoobccgcaaDoor
open Go.RowKit

/-- a slice value that holds rows -/
def Rows4 (w : World) (v : Value) (l : List Rw) : Prop :=
  ∃ a cap, v = .slice a l.length cap ∧ ∀ j, j < l.length → ∃ b off tv, a = some ⟨b, off, none⟩ ∧ w.cell? ⟨b, off + j * 2, none⟩ = some (.int .i32 (rw_ l j).fr) ∧ w.cell? ⟨b, off + j * 2 + 1, none⟩ = some tv ∧ Runes w tv (rw_ l j).to
theorem Rows4.below {w w' : World} {v : Value} {l : List Rw} (h : Rows4 w v l) (hb : Below w.heap.size w w') : Rows4 w' v l := by
  obtain ⟨a, cap, rfl, h⟩ := h
  refine ⟨a, cap, rfl, fun j hj => ?_⟩
  obtain ⟨b, off, tv, rfl, h0, h1, h2⟩ := h j hj
  exact ⟨b, off, tv, rfl, (hb.cell (p := ⟨b, off + j * 2, none⟩) (lt_of_cell h0)).trans h0, (hb.cell (p := ⟨b, off + j * 2 + 1, none⟩) (lt_of_cell h1)).trans h1, h2.below hb⟩
end Go.Proofs.YtcklfcoobccgcaaDoor

/-
  What is proved here: an argument that is a list of runes, opened, with what its nil is.
-/
import Derived.Test.YtlnehhfljjeifaaDoorFrameT
import Derived.Test.YtlnehhfljjeifaaDoorAQ
namespace Go.Proofs.YtlnehhfljjeifaaDoor
open Go.ChangeShapes Go.WideShapes Go.ChangeAt Go.RowKit Go.Deep

section
variable {H : Type} {enc : TypeId × Value → H} {W : World}
set_option maxRecDepth 100000 in
theorem open_runesZ {base : Nat} {v : Value} {d : DataW H} {ps : List MemPlace} (hv : Value.okWide Tryd.prog W .any base 24 v) (h : DataW.Trod enc Tryd.prog W 0 (fun _ => true) true 24 v d ps) : ∃ (rs : List Int), RunesZ W v rs := by
  obtain ⟨a0, len, cap, rfl⟩ := okWide_slice Tryd.underlying24 hv
  obtain ⟨fuel, hf⟩ := h
  have h : DataW.trod enc Tryd.prog W 0 (fun _ => true) true fuel 24 [.slice a0 len cap] = some (d, ps) := by simpa [Value.cells] using hf
  obtain ⟨rs, hr, -⟩ := runes_of h
  refine ⟨rs, hr, fun n c e => ?_⟩
  rcases open_ints Tryd.underlying24 Tryd.underlying21 Tryd.cellsI32 h with ⟨hcs, hx⟩ | ⟨a, len', cap', zs, hcs, _⟩
  · simp at hcs
    injection e with _ _ e3
    rw [← e3]; exact hcs.2.2
  · simp at hcs
    injection e with e1
    rw [hcs.1] at e1; cases e1
end
end Go.Proofs.YtlnehhfljjeifaaDoor

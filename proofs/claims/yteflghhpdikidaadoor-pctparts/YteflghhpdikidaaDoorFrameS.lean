/-
  What is proved here: what the rows' condition on package-level variables gives the walks, for the rows that list a table of Go's library; that it can be met.
-/
import Derived.Test.YteflghhpdikidaaDoorFrame
import Derived.Test.YteflghhpdikidaaDoorShelf
import Derived.Lay
import Derived.Deep.DeepHandedRow
namespace Go.Proofs.YteflghhpdikidaaDoor
open Go.ChangeShapes Go.WideShapes Go.ChangeAt Go.RowKit

theorem laid_oneS {W : World} (h : laidMetH Tryd.prog Rows.pctSplitsRow.laid W) (n : String) (l : List (String × DataW Unit)) (e : (Rows.pctSplitsRow.laid.filter fun x => x.1 == n) = l) : laidMetH Tryd.prog l W := by
  rw [← e]; exact h.filter _
/-- WHAT THE CONDITION GIVES THE WALKS. -/
theorem gl_of_laidS {W : World} (h : laidMetH Tryd.prog Rows.pctSplitsRow.laid W) : ∃ p, Gl p W := by
  have h0 := handle_cell (laid_oneS h "errors.errorType" [("errors.errorType", Rows.laid_errors_errorType)] (by kernel_rfl))
  obtain ⟨a1, h1⟩ := sentinel_cell (laid_oneS h "eponym/api.ErrByte" [("eponym/api.ErrByte", Rows.laid_eponym_api_ErrByte)] (by kernel_rfl)) (g := 0) (by kernel_rfl) (by kernel_rfl)
  obtain ⟨a2, h2⟩ := sentinel_cell (laid_oneS h "eponym/api.ErrEnd" [("eponym/api.ErrEnd", Rows.laid_eponym_api_ErrEnd)] (by kernel_rfl)) (g := 2) (by kernel_rfl) (by kernel_rfl)
  obtain ⟨a4, h4⟩ := sentinel_cell (laid_oneS h "eponym/api.ErrRange" [("eponym/api.ErrRange", Rows.laid_eponym_api_ErrRange)] (by kernel_rfl)) (g := 4) (by kernel_rfl) (by kernel_rfl)
  exact ⟨fun n => if n = 1 then a1 else if n = 2 then a2 else a4, h0, h1, h2, h4⟩
theorem maxLen_of_shape {W : World} (h : W.ShapedOpen Tryd.prog) : ∃ m, W.cell? ⟨19, 0, none⟩ = some (.int .i64 m) := Tryd.laysM146.s1_3 W h

/-- The door's own heap, with the library's table laid in it, meets the condition. -/
theorem door_metS (os : Os) (args : Array Value) : laidMetH Tryd.prog Rows.pctSplitsRow.laid (((World.doorLaid Tryd.prog 400 os).layVars Tryd.prog [("unicode/utf8.first", Rows.laid_unicode_utf8_first)]).forCall (fun _ _ => 0) ⟨#[], args, []⟩).memory :=
  laidMetH_of_parts3 (fuel := 8) (laidMet_layVars (w0 := World.doorLaid Tryd.prog 400 os) ["unicode/utf8.first"] ((List.range (World.doorLaid Tryd.prog 400 os).heap.size).filter (· != 20)) (by kernel_rfl) (by kernel_rfl) (by kernel_rfl) (LaidIn.of_run _ 8 (by kernel_rfl) (by kernel_rfl) (by kernel_rfl) (by kernel_rfl))) (by kernel_rfl) (by kernel_rfl)
end Go.Proofs.YteflghhpdikidaaDoor

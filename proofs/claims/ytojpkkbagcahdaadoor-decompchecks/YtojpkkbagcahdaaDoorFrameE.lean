/-
  What is proved here: what the condition of the row of DecompChecks on package-level variables gives the walks; that it can be met.
-/
import Derived.Test.YtojpkkbagcahdaaDoorFrameN
namespace Go.Proofs.YtojpkkbagcahdaaDoor
open Go.ChangeShapes Go.WideShapes Go.ChangeAt Go.RowKit

theorem Tryd.et : Tryd.prog.globalNamed "errors.errorType" = some 2 := by kernel_rfl
theorem Tryd.rt : (Tryd.prog.cutTypes.find? (·.1 == "internal/reflectlite.rtype")).map (·.2) = some 101 := by kernel_rfl
theorem Tryd.oneRow : ((List.range 186).filter fun t => Tryd.prog.rowNamed t [101, 114, 114, 111, 114]) = [33] := by kernel_rfl
theorem Tryd.size : Tryd.prog.types.size = 186 := by kernel_rfl
theorem handle_cell {W : World} (h : laidMetH Tryd.prog [("errors.errorType", Rows.laid_errors_errorType)] W) : W.cell? ⟨2, 0, none⟩ = some (.iface 101 (.agg #[.pointer (some ⟨20, 33, none⟩)])) := by
  have h' : laidMet Tryd.prog [] W ∧ handlesMet Tryd.prog [("errors.errorType", Rows.laid_errors_errorType)] W := h
  obtain ⟨name, u, ty, e1, e2, e3, e4, e5⟩ := h'.2 _ (List.mem_singleton.2 rfl)
  have en : name = [101, 114, 114, 111, 114] := (Option.some.inj e1).symm
  subst en
  obtain rfl := Option.some.inj (Tryd.rt.symm.trans e2)
  have hm : ty ∈ (List.range 186).filter fun t => Tryd.prog.rowNamed t [101, 114, 114, 111, 114] := List.mem_filter.2 ⟨List.mem_range.2 (by rw [← Tryd.size]; exact e3), e4⟩
  rw [Tryd.oneRow] at hm
  obtain rfl := List.mem_singleton.1 hm
  have hh : typeHandle Tryd.prog 33 = .pointer (some ⟨20, 33, none⟩) := by kernel_rfl
  rw [hh] at e5
  simpa using World.var?_cell Tryd.et e5 0
theorem laid_oneE {W : World} (h : laidMetH Tryd.prog Rows.decompChecksRow.laid W) (n : String) (l : List (String × DataW Unit)) (e : (Rows.decompChecksRow.laid.filter fun x => x.1 == n) = l) : laidMetH Tryd.prog l W := by
  rw [← e]; exact h.filter _
theorem gl_of_laidE {W : World} (h : laidMetH Tryd.prog Rows.decompChecksRow.laid W) : ∃ p, Gl p W ∧ Et W := by
  obtain ⟨a4, h4⟩ := sentinel_cell (laid_oneE h "eponym/api.ErrRange" [("eponym/api.ErrRange", Rows.laid_eponym_api_ErrRange)] (by kernel_rfl)) (g := 6) (by kernel_rfl) (by kernel_rfl)
  obtain ⟨a5, h5⟩ := sentinel_cell (laid_oneE h "eponym/api.ErrForm" [("eponym/api.ErrForm", Rows.laid_eponym_api_ErrForm)] (by kernel_rfl)) (g := 7) (by kernel_rfl) (by kernel_rfl)
  obtain ⟨a6, h6⟩ := sentinel_cell (laid_oneE h "eponym/api.ErrOrder" [("eponym/api.ErrOrder", Rows.laid_eponym_api_ErrOrder)] (by kernel_rfl)) (g := 8) (by kernel_rfl) (by kernel_rfl)
  obtain ⟨a7, h7⟩ := sentinel_cell (laid_oneE h "eponym/api.ErrThere" [("eponym/api.ErrThere", Rows.laid_eponym_api_ErrThere)] (by kernel_rfl)) (g := 9) (by kernel_rfl) (by kernel_rfl)
  obtain ⟨a9, h9⟩ := sentinel_cell (laid_oneE h "eponym/api.ErrDeep" [("eponym/api.ErrDeep", Rows.laid_eponym_api_ErrDeep)] (by kernel_rfl)) (g := 11) (by kernel_rfl) (by kernel_rfl)
  obtain ⟨a17, h17⟩ := sentinel_cell (laid_oneE h "eponym/api.ErrKind" [("eponym/api.ErrKind", Rows.laid_eponym_api_ErrKind)] (by kernel_rfl)) (g := 19) (by kernel_rfl) (by kernel_rfl)
  obtain ⟨a18, h18⟩ := sentinel_cell (laid_oneE h "eponym/api.ErrFull" [("eponym/api.ErrFull", Rows.laid_eponym_api_ErrFull)] (by kernel_rfl)) (g := 0) (by kernel_rfl) (by kernel_rfl)
  have hh := hangul_cells (laid_oneE h "eponym/decomp.hangul" [("eponym/decomp.hangul", Rows.laid_eponym_decomp_hangul)] (by kernel_rfl))
  exact ⟨fun n => if n = 4 then a4 else if n = 5 then a5 else if n = 6 then a6 else if n = 7 then a7 else if n = 9 then a9 else if n = 17 then a17 else a18, ⟨h4, h5, h6, h7, h9, h17, h18, hh 0 (by omega), hh 1 (by omega), hh 2 (by omega), hh 3 (by omega), hh 4 (by omega), hh 5 (by omega), hh 6 (by omega), hh 7 (by omega)⟩, handle_cell (laid_oneE h "errors.errorType" [("errors.errorType", Rows.laid_errors_errorType)] (by kernel_rfl))⟩
theorem door_metE (os : Os) (args : Array Value) : laidMetH Tryd.prog Rows.decompChecksRow.laid ((World.doorLaid Tryd.prog 400 os).forCall (fun _ _ => 0) ⟨#[], args, []⟩).memory :=
  laidMetH_of_parts3 (fuel := 8) (laidMet_of_run' 8 (by kernel_rfl) (by kernel_rfl)) (by kernel_rfl) (by kernel_rfl)
end Go.Proofs.YtojpkkbagcahdaaDoor

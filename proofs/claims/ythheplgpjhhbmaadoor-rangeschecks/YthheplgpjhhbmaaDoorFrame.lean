/-
  What is proved here: what the rows' condition on package-level variables gives the walks; that it can be met.
-/
import Derived.Test.YthheplgpjhhbmaaDoorCards
import Derived.Test.YthheplgpjhhbmaaDoorTie
import Derived.Test.YthheplgpjhhbmaaDoorBase
import Derived.ProofKit
import Derived.LaidMore
import Derived.OpenShut
import Derived.Stop.Joined
import Derived.Stop.LaidErr
import Derived.Stop.LaidTwo
import Derived.LaidSub
import Derived.LaidHandle
import Derived.MakeChecks
namespace Go.Proofs.YthheplgpjhhbmaaDoor
open Go.ChangeShapes Go.WideShapes Go.ChangeAt Go.RowKit

theorem Tryd.own : ownKnob Tryd.prog.godebug = none := by kernel_rfl
theorem Tryd.star : "*" ++ "errors.errorString" = "*errors.errorString" := by decide
theorem Tryd.rowES (u : TypeId) (h : Tryd.prog.typeName? 3 u = some "*errors.errorString") : u = 118 :=
  typeName_ptr_named (nm := "errors.errorString") (by rw [Tryd.star]; kernel_rfl) (by kernel_rfl) (by decide) u (by rw [Tryd.star]; exact h)
theorem Tryd.cellsES : Tryd.prog.cellsOf 139 = 1 := by kernel_rfl
theorem Tryd.cellsS : Tryd.prog.cellsOf 9 = 1 := by kernel_rfl
theorem Tryd.et : Tryd.prog.globalNamed "errors.errorType" = some 5 := by kernel_rfl
theorem Tryd.rt : (Tryd.prog.cutTypes.find? (·.1 == "internal/reflectlite.rtype")).map (·.2) = some 95 := by kernel_rfl
theorem Tryd.oneRow : ((List.range 151).filter fun t => Tryd.prog.rowNamed t [101, 114, 114, 111, 114]) = [27] := by kernel_rfl
theorem Tryd.size : Tryd.prog.types.size = 151 := by kernel_rfl

/-- one sentinel out of a list of one -/
theorem sentinel_cell {W : World} {n : String} {text : List UInt8} {g : Nat} (h : laidMet Tryd.prog [(n, .iface "*errors.errorString" (.ptr (.agg [.lit (.string text)])))] W)
    (hg : Tryd.prog.globalNamed n = some g) (ht : (Tryd.prog.globals[g]?).map (·.type) = some 27) : ∃ a : Addr, W.cell? ⟨g, 0, none⟩ = some (.iface 118 (.pointer (some a))) := by
  obtain ⟨a, s, hv, _⟩ := laid_sentinel h hg ht Tryd.underlying27 Tryd.rowES Tryd.underlying118 Tryd.underlying139 rfl rfl Tryd.underlying9 Tryd.cellsES Tryd.cellsS
  exact ⟨a, by simpa using World.var?_cell hg hv 0⟩

theorem handle_cell {W : World} (h : laidMetH Tryd.prog [("errors.errorType", Rows.laid_errors_errorType)] W) : W.cell? ⟨5, 0, none⟩ = some (.iface 95 (.agg #[.pointer (some ⟨20, 27, none⟩)])) := by
  have h' : laidMet Tryd.prog [] W ∧ handlesMet Tryd.prog [("errors.errorType", Rows.laid_errors_errorType)] W := h
  obtain ⟨name, u, ty, e1, e2, e3, e4, e5⟩ := h'.2 _ (List.mem_singleton.2 rfl)
  have en : name = [101, 114, 114, 111, 114] := (Option.some.inj e1).symm
  subst en
  obtain rfl := Option.some.inj (Tryd.rt.symm.trans e2)
  have hm : ty ∈ (List.range 151).filter fun t => Tryd.prog.rowNamed t [101, 114, 114, 111, 114] := List.mem_filter.2 ⟨List.mem_range.2 (by rw [← Tryd.size]; exact e3), e4⟩
  rw [Tryd.oneRow] at hm
  obtain rfl := List.mem_singleton.1 hm
  have hh : typeHandle Tryd.prog 27 = .pointer (some ⟨20, 27, none⟩) := by kernel_rfl
  rw [hh] at e5
  simpa using World.var?_cell Tryd.et e5 0

theorem laid_one {W : World} (h : laidMetH Tryd.prog Rows.rangesFindsRow.laid W) (n : String) (l : List (String × DataW Unit)) (e : (Rows.rangesFindsRow.laid.filter fun x => x.1 == n) = l) : laidMetH Tryd.prog l W := by
  rw [← e]; exact h.filter _
theorem laid_two {W : World} (h : laidMetH Tryd.prog Rows.rangesFindsRow.laid W) (n m : String) (l : List (String × DataW Unit)) (e : (Rows.rangesFindsRow.laid.filter fun x => x.1 == n || x.1 == m) = l) : laidMetH Tryd.prog l W := by
  rw [← e]; exact h.filter _
theorem sentinels_ne {W : World} {n0 n1 : String} {t0 t1 : List UInt8} {g0 g1 : Nat} {a0 a1 : Addr} (h : laidMet Tryd.prog [(n0, .iface "*errors.errorString" (.ptr (.agg [.lit (.string t0)]))), (n1, .iface "*errors.errorString" (.ptr (.agg [.lit (.string t1)])))] W)
    (hg0 : Tryd.prog.globalNamed n0 = some g0) (ht0 : (Tryd.prog.globals[g0]?).map (·.type) = some 27) (hg1 : Tryd.prog.globalNamed n1 = some g1) (ht1 : (Tryd.prog.globals[g1]?).map (·.type) = some 27)
    (c0 : W.cell? ⟨g0, 0, none⟩ = some (.iface 118 (.pointer (some a0)))) (c1 : W.cell? ⟨g1, 0, none⟩ = some (.iface 118 (.pointer (some a1)))) : a0 ≠ a1 := by
  obtain ⟨b0, b1, _, _, _, _, _, _, hv0, hv1, _, _, _, _, _, _, hne, _, _⟩ := laid_sentinels2 h hg0 ht0 hg1 ht1 Tryd.underlying27 Tryd.rowES Tryd.underlying118 Tryd.underlying139 rfl rfl Tryd.underlying9 Tryd.cellsES Tryd.cellsS
  have e0 : W.cell? ⟨g0, 0, none⟩ = some (.iface 118 (.pointer (some b0))) := by simpa using World.var?_cell hg0 hv0 0
  have e1 : W.cell? ⟨g1, 0, none⟩ = some (.iface 118 (.pointer (some b1))) := by simpa using World.var?_cell hg1 hv1 0
  rw [c0] at e0
  rw [c1] at e1
  simp at e0 e1
  rw [e0, e1]; exact hne
/-- WHAT THE CONDITION GIVES THE WALKS. -/
theorem gl_of_laid {W : World} (h : laidMetH Tryd.prog Rows.rangesFindsRow.laid W) : ∃ p, Gl p W := by
  have h0 := handle_cell (laid_one h "errors.errorType" [("errors.errorType", Rows.laid_errors_errorType)] (by kernel_rfl))
  obtain ⟨a2, h2⟩ := sentinel_cell (laid_one h "eponym/api.ErrEnd" [("eponym/api.ErrEnd", Rows.laid_eponym_api_ErrEnd)] (by kernel_rfl)) (g := 2) (by kernel_rfl) (by kernel_rfl)
  obtain ⟨a4, h4⟩ := sentinel_cell (laid_one h "eponym/api.ErrRange" [("eponym/api.ErrRange", Rows.laid_eponym_api_ErrRange)] (by kernel_rfl)) (g := 8) (by kernel_rfl) (by kernel_rfl)
  obtain ⟨a5, h5⟩ := sentinel_cell (laid_one h "eponym/api.ErrForm" [("eponym/api.ErrForm", Rows.laid_eponym_api_ErrForm)] (by kernel_rfl)) (g := 3) (by kernel_rfl) (by kernel_rfl)
  obtain ⟨a6, h6⟩ := sentinel_cell (laid_one h "eponym/api.ErrOrder" [("eponym/api.ErrOrder", Rows.laid_eponym_api_ErrOrder)] (by kernel_rfl)) (g := 0) (by kernel_rfl) (by kernel_rfl)
  obtain ⟨a7, h7⟩ := sentinel_cell (laid_one h "eponym/api.ErrThere" [("eponym/api.ErrThere", Rows.laid_eponym_api_ErrThere)] (by kernel_rfl)) (g := 1) (by kernel_rfl) (by kernel_rfl)
  obtain ⟨a18, h18⟩ := sentinel_cell (laid_one h "eponym/api.ErrFull" [("eponym/api.ErrFull", Rows.laid_eponym_api_ErrFull)] (by kernel_rfl)) (g := 4) (by kernel_rfl) (by kernel_rfl)
  have n2_6 : a2 ≠ a6 := sentinels_ne (laid_two h "eponym/api.ErrEnd" "eponym/api.ErrOrder" [("eponym/api.ErrEnd", Rows.laid_eponym_api_ErrEnd), ("eponym/api.ErrOrder", Rows.laid_eponym_api_ErrOrder)] (by kernel_rfl)) (by kernel_rfl) (by kernel_rfl) (by kernel_rfl) (by kernel_rfl) h2 h6
  have n4_6 : a4 ≠ a6 := sentinels_ne (laid_two h "eponym/api.ErrRange" "eponym/api.ErrOrder" [("eponym/api.ErrRange", Rows.laid_eponym_api_ErrRange), ("eponym/api.ErrOrder", Rows.laid_eponym_api_ErrOrder)] (by kernel_rfl)) (by kernel_rfl) (by kernel_rfl) (by kernel_rfl) (by kernel_rfl) h4 h6
  have n5_6 : a5 ≠ a6 := sentinels_ne (laid_two h "eponym/api.ErrForm" "eponym/api.ErrOrder" [("eponym/api.ErrForm", Rows.laid_eponym_api_ErrForm), ("eponym/api.ErrOrder", Rows.laid_eponym_api_ErrOrder)] (by kernel_rfl)) (by kernel_rfl) (by kernel_rfl) (by kernel_rfl) (by kernel_rfl) h5 h6
  have n6_7 : a6 ≠ a7 := sentinels_ne (laid_two h "eponym/api.ErrOrder" "eponym/api.ErrThere" [("eponym/api.ErrOrder", Rows.laid_eponym_api_ErrOrder), ("eponym/api.ErrThere", Rows.laid_eponym_api_ErrThere)] (by kernel_rfl)) (by kernel_rfl) (by kernel_rfl) (by kernel_rfl) (by kernel_rfl) h6 h7
  have n6_18 : a6 ≠ a18 := sentinels_ne (laid_two h "eponym/api.ErrOrder" "eponym/api.ErrFull" [("eponym/api.ErrOrder", Rows.laid_eponym_api_ErrOrder), ("eponym/api.ErrFull", Rows.laid_eponym_api_ErrFull)] (by kernel_rfl)) (by kernel_rfl) (by kernel_rfl) (by kernel_rfl) (by kernel_rfl) h6 h18
  have n2_18 : a2 ≠ a18 := sentinels_ne (laid_two h "eponym/api.ErrEnd" "eponym/api.ErrFull" [("eponym/api.ErrEnd", Rows.laid_eponym_api_ErrEnd), ("eponym/api.ErrFull", Rows.laid_eponym_api_ErrFull)] (by kernel_rfl)) (by kernel_rfl) (by kernel_rfl) (by kernel_rfl) (by kernel_rfl) h2 h18
  have n4_18 : a4 ≠ a18 := sentinels_ne (laid_two h "eponym/api.ErrRange" "eponym/api.ErrFull" [("eponym/api.ErrRange", Rows.laid_eponym_api_ErrRange), ("eponym/api.ErrFull", Rows.laid_eponym_api_ErrFull)] (by kernel_rfl)) (by kernel_rfl) (by kernel_rfl) (by kernel_rfl) (by kernel_rfl) h4 h18
  have n5_18 : a5 ≠ a18 := sentinels_ne (laid_two h "eponym/api.ErrForm" "eponym/api.ErrFull" [("eponym/api.ErrForm", Rows.laid_eponym_api_ErrForm), ("eponym/api.ErrFull", Rows.laid_eponym_api_ErrFull)] (by kernel_rfl)) (by kernel_rfl) (by kernel_rfl) (by kernel_rfl) (by kernel_rfl) h5 h18
  have n7_18 : a7 ≠ a18 := sentinels_ne (laid_two h "eponym/api.ErrThere" "eponym/api.ErrFull" [("eponym/api.ErrThere", Rows.laid_eponym_api_ErrThere), ("eponym/api.ErrFull", Rows.laid_eponym_api_ErrFull)] (by kernel_rfl)) (by kernel_rfl) (by kernel_rfl) (by kernel_rfl) (by kernel_rfl) h7 h18
  refine ⟨fun n => if n = 2 then a2 else if n = 4 then a4 else if n = 5 then a5 else if n = 6 then a6 else if n = 7 then a7 else a18, h0, h2, h4, h5, h6, h7, h18, ?_, ?_⟩
  · intro c hc
    show (if c = 2 then a2 else if c = 4 then a4 else if c = 5 then a5 else if c = 6 then a6 else if c = 7 then a7 else a18) ≠ a6
    simp only [if_neg hc]
    (repeat' split) <;> first | assumption | exact Ne.symm (by assumption)
  · rintro c (rfl | rfl | rfl | rfl | rfl) <;> simp <;> first | assumption | exact Ne.symm (by assumption)

/-- The door's own heap meets the condition. -/
theorem door_met (os : Os) (args : Array Value) : laidMetH Tryd.prog Rows.rangesFindsRow.laid ((World.doorLaid Tryd.prog 400 os).forCall (fun _ _ => 0) ⟨#[], args, []⟩).memory :=
  laidMetH_of_parts3 (fuel := 8) (laidMet_of_run' 8 (by kernel_rfl) (by kernel_rfl)) (by kernel_rfl) (by kernel_rfl)
theorem Tryd.laidOut : laidOutB Tryd.prog = true := by kernel_rfl
end Go.Proofs.YthheplgpjhhbmaaDoor

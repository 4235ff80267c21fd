/-
  What is proved here: what the rows' list of package-level variables gives the walks; that the door's own heap meets it.
-/
import Derived.Test.YtockmkcoehepiaaDoorCards
import Derived.Test.YtockmkcoehepiaaDoorTie
import Derived.Test.YtockmkcoehepiaaDoorZE
import Derived.ProofKit
import Derived.LaidMore
import Derived.OpenShut
import Derived.Stop.Joined
import Derived.Stop.LaidErr
import Derived.LaidSub
import Derived.LaidHandle
import Derived.MakeChecks
namespace Go.Proofs.YtockmkcoehepiaaDoor
open Go.ChangeShapes Go.WideShapes Go.ChangeAt Go.RowKit

theorem Tryd.own : ownKnob Tryd.prog.godebug = none := by kernel_rfl
theorem Tryd.star : "*" ++ "errors.errorString" = "*errors.errorString" := by decide
theorem Tryd.rowES (u : TypeId) (h : Tryd.prog.typeName? 3 u = some "*errors.errorString") : u = 204 :=
  typeName_ptr_named (nm := "errors.errorString") (by rw [Tryd.star]; kernel_rfl) (by kernel_rfl) (by decide) u (by rw [Tryd.star]; exact h)
theorem Tryd.cellsES : Tryd.prog.cellsOf 225 = 1 := by kernel_rfl
theorem Tryd.cellsS : Tryd.prog.cellsOf 9 = 1 := by kernel_rfl
theorem Tryd.et : Tryd.prog.globalNamed "errors.errorType" = some 5 := by kernel_rfl
theorem Tryd.rt : (Tryd.prog.cutTypes.find? (·.1 == "internal/reflectlite.rtype")).map (·.2) = some 147 := by kernel_rfl
theorem Tryd.oneRow : ((List.range 237).filter fun t => Tryd.prog.rowNamed t [101, 114, 114, 111, 114]) = [33] := by kernel_rfl
theorem Tryd.size : Tryd.prog.types.size = 237 := by kernel_rfl

/-- one sentinel out of a list of one -/
theorem sentinel_cell {W : World} {n : String} {text : List UInt8} {g : Nat} (h : laidMet Tryd.prog [(n, .iface "*errors.errorString" (.ptr (.agg [.lit (.string text)])))] W)
    (hg : Tryd.prog.globalNamed n = some g) (ht : (Tryd.prog.globals[g]?).map (·.type) = some 33) : ∃ a : Addr, W.cell? ⟨g, 0, none⟩ = some (.iface 204 (.pointer (some a))) := by
  obtain ⟨a, s, hv, _⟩ := laid_sentinel h hg ht Tryd.underlying33 Tryd.rowES Tryd.underlying204 Tryd.underlying225 rfl rfl Tryd.underlying9 Tryd.cellsES Tryd.cellsS
  exact ⟨a, by simpa using World.var?_cell hg hv 0⟩

theorem handle_cell {W : World} (h : laidMetH Tryd.prog [("errors.errorType", Rows.laid_errors_errorType)] W) : W.cell? ⟨5, 0, none⟩ = some (.iface 147 (.agg #[.pointer (some ⟨21, 33, none⟩)])) := by
  have h' : laidMet Tryd.prog [] W ∧ handlesMet Tryd.prog [("errors.errorType", Rows.laid_errors_errorType)] W := h
  obtain ⟨name, u, ty, e1, e2, e3, e4, e5⟩ := h'.2 _ (List.mem_singleton.2 rfl)
  have en : name = [101, 114, 114, 111, 114] := (Option.some.inj e1).symm
  subst en
  obtain rfl := Option.some.inj (Tryd.rt.symm.trans e2)
  have hm : ty ∈ (List.range 237).filter fun t => Tryd.prog.rowNamed t [101, 114, 114, 111, 114] := List.mem_filter.2 ⟨List.mem_range.2 (by rw [← Tryd.size]; exact e3), e4⟩
  rw [Tryd.oneRow] at hm
  obtain rfl := List.mem_singleton.1 hm
  have hh : typeHandle Tryd.prog 33 = .pointer (some ⟨21, 33, none⟩) := by kernel_rfl
  rw [hh] at e5
  simpa using World.var?_cell Tryd.et e5 0

theorem laid_one {W : World} (h : laidMetH Tryd.prog Rows.punyEncodesRow.laid W) (n : String) (l : List (String × DataW Unit)) (e : (Rows.punyEncodesRow.laid.filter fun x => x.1 == n) = l) : laidMetH Tryd.prog l W := by
  rw [← e]; exact h.filter _
/-- WHAT THE CONDITION GIVES THE WALKS. -/
theorem gl_of_laid {W : World} (h : laidMetH Tryd.prog Rows.punyEncodesRow.laid W) : ∃ p, Gl p W ∧ Et W := by
  have h0 := handle_cell (laid_one h "errors.errorType" [("errors.errorType", Rows.laid_errors_errorType)] (by kernel_rfl))
  obtain ⟨a1, h1⟩ := sentinel_cell (laid_one h "eponym/api.ErrByte" [("eponym/api.ErrByte", Rows.laid_eponym_api_ErrByte)] (by kernel_rfl)) (g := 3) (by kernel_rfl) (by kernel_rfl)
  obtain ⟨a2, h2⟩ := sentinel_cell (laid_one h "eponym/api.ErrEnd" [("eponym/api.ErrEnd", Rows.laid_eponym_api_ErrEnd)] (by kernel_rfl)) (g := 6) (by kernel_rfl) (by kernel_rfl)
  obtain ⟨a3, h3⟩ := sentinel_cell (laid_one h "eponym/api.ErrLong" [("eponym/api.ErrLong", Rows.laid_eponym_api_ErrLong)] (by kernel_rfl)) (g := 2) (by kernel_rfl) (by kernel_rfl)
  obtain ⟨a4, h4⟩ := sentinel_cell (laid_one h "eponym/api.ErrRange" [("eponym/api.ErrRange", Rows.laid_eponym_api_ErrRange)] (by kernel_rfl)) (g := 1) (by kernel_rfl) (by kernel_rfl)
  obtain ⟨a15, h15⟩ := sentinel_cell (laid_one h "eponym/api.ErrPuny" [("eponym/api.ErrPuny", Rows.laid_eponym_api_ErrPuny)] (by kernel_rfl)) (g := 17) (by kernel_rfl) (by kernel_rfl)
  exact ⟨fun n => if n = 1 then a1 else if n = 2 then a2 else if n = 3 then a3 else if n = 4 then a4 else a15, ⟨h1, h2, h3, h4, h15⟩, h0⟩

/-- The door's own heap meets the condition. -/
theorem door_met (os : Os) (args : Array Value) : laidMetH Tryd.prog Rows.punyEncodesRow.laid ((World.doorLaid Tryd.prog 400 os).forCall (fun _ _ => 0) ⟨#[], args, []⟩).memory :=
  laidMetH_of_parts3 (fuel := 8) (laidMet_of_run' 8 (by kernel_rfl) (by kernel_rfl)) (by kernel_rfl) (by kernel_rfl)
theorem Tryd.laidOut : laidOutB Tryd.prog = true := by kernel_rfl
theorem Tryd.cellsR : Tryd.prog.cellsOf 21 = 1 := by kernel_rfl
set_option maxRecDepth 100000 in
theorem open_runesC {H : Type} {enc : TypeId × Value → H} {W : World} {base : Nat} {v : Value} {d : DataW H} {ps : List MemPlace} (hv : Value.okWide Tryd.prog W .any base 24 v) (h : DataW.Trod enc Tryd.prog W 0 (fun _ => true) true 24 v d ps) :
    ∃ (a : Option Addr) (cap : Nat) (rs : List Int), v = .slice a rs.length cap ∧ RunesC W a cap rs ∧ rs.length ≤ maxLen := by
  obtain ⟨a0, len, cap, rfl⟩ := okWide_slice Tryd.underlying24 hv
  obtain ⟨fuel, hf⟩ := h
  rcases open_ints Tryd.underlying24 Tryd.underlying21 Tryd.cellsR hf with ⟨hcs, hx⟩ | ⟨a, len', cap', zs, hcs, hl0, hl, hm, hz, hx, hcell, hwz⟩
  · simp [Value.cells] at hcs
    obtain ⟨rfl, rfl, rfl⟩ := hcs
    exact ⟨none, 0, [], rfl, ⟨by simp, fun j hj => by simp at hj⟩, by simp⟩
  · simp [Value.cells] at hcs
    obtain ⟨rfl, rfl, rfl⟩ := hcs
    simp only [if_true] at hz
    have hlen : (zs.take len).length = len := by rw [List.length_take]; omega
    refine ⟨some a, cap, zs.take len, by rw [hlen], ⟨by omega, fun j hj => ?_⟩, by omega⟩
    rw [hlen] at hj
    obtain ⟨b, off, spot⟩ := a
    have hspot : spot = none := by simpa [Addr.add] using World.cell?_spot (hcell 0 (by omega))
    subst hspot
    refine ⟨b, off, rfl, ?_⟩
    have := hcell j (by omega)
    rw [Addr.add_lit] at this
    rw [this]
    simp [List.getD, hj]
end Go.Proofs.YtockmkcoehepiaaDoor

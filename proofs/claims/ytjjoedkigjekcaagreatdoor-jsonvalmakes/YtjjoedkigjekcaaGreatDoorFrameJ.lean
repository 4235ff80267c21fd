/-
  What is proved here: arguments that are JSON values and texts, opened; what the rows' condition on package-level variables gives the walks; that it can be met.
-/
import Derived.Test.YtjjoedkigjekcaaGreatDoorCards
import Derived.Test.YtjjoedkigjekcaaGreatDoorTie
import Derived.Test.YtjjoedkigjekcaaGreatDoorFrameV
import Derived.Test.YtjjoedkigjekcaaGreatDoorJQ
import Derived.ProofKit
import Derived.LaidMore
import Derived.OpenShut
import Derived.Stop.Joined
import Derived.Stop.LaidErr
import Derived.LaidSub
import Derived.LaidHandle
import Derived.MakeChecks
import Derived.Deep.Slices
import Derived.Deep.DeepHandedRow
import Derived.SizedLaws
namespace Go.Proofs.YtjjoedkigjekcaaGreatDoor
open Go.ChangeShapes Go.WideShapes Go.ChangeAt Go.RowKit Go.Deep

theorem Tryz.own : ownKnob Tryz.prog.godebug = none := by kernel_rfl
theorem Tryz.star : "*" ++ "errors.errorString" = "*errors.errorString" := by decide
theorem Tryz.rowES (u : TypeId) (h : Tryz.prog.typeName? 3 u = some "*errors.errorString") : u = 185 :=
  typeName_ptr_named (nm := "errors.errorString") (by rw [Tryz.star]; kernel_rfl) (by kernel_rfl) (by decide) u (by rw [Tryz.star]; exact h)
theorem Tryz.cellsES : Tryz.prog.cellsOf 206 = 1 := by kernel_rfl
theorem Tryz.laidOut : laidOutB Tryz.prog = true := by kernel_rfl
/-- one sentinel out of a list of one -/
theorem sentinel_cell {W : World} {n : String} {text : List UInt8} {g : Nat} (h : laidMet Tryz.prog [(n, .iface "*errors.errorString" (.ptr (.agg [.lit (.string text)])))] W)
    (hg : Tryz.prog.globalNamed n = some g) (ht : (Tryz.prog.globals[g]?).map (·.type) = some 32) : ∃ a : Addr, W.cell? ⟨g, 0, none⟩ = some (.iface 185 (.pointer (some a))) := by
  obtain ⟨a, s, hv, _⟩ := laid_sentinel h hg ht Tryz.underlying32 Tryz.rowES Tryz.underlying185 Tryz.underlying206 rfl rfl Tryz.underlying9 Tryz.cellsES Tryz.cellsS
  exact ⟨a, by simpa using World.var?_cell hg hv 0⟩
theorem laid_oneL {L : List (String × DataW Unit)} {W : World} (h : laidMetH Tryz.prog L W) (n : String) (l : List (String × DataW Unit)) (e : (L.filter fun x => x.1 == n) = l) : laidMetH Tryz.prog l W := by
  rw [← e]; exact h.filter _
theorem Tryz.et : Tryz.prog.globalNamed "errors.errorType" = some 0 := by kernel_rfl
theorem Tryz.rt : (Tryz.prog.cutTypes.find? (·.1 == "internal/reflectlite.rtype")).map (·.2) = some 98 := by kernel_rfl
theorem Tryz.oneRow : ((List.range 218).filter fun t => Tryz.prog.rowNamed t [101, 114, 114, 111, 114]) = [32] := by kernel_rfl
theorem Tryz.size : Tryz.prog.types.size = 218 := by kernel_rfl
theorem handle_cell {W : World} (h : laidMetH Tryz.prog [("errors.errorType", Rows.laid_errors_errorType)] W) : W.cell? ⟨0, 0, none⟩ = some (.iface 98 (.agg #[.pointer (some ⟨23, 32, none⟩)])) := by
  have h' : laidMet Tryz.prog [] W ∧ handlesMet Tryz.prog [("errors.errorType", Rows.laid_errors_errorType)] W := h
  obtain ⟨name, u, ty, e1, e2, e3, e4, e5⟩ := h'.2 _ (List.mem_singleton.2 rfl)
  have en : name = [101, 114, 114, 111, 114] := (Option.some.inj e1).symm
  subst en
  obtain rfl := Option.some.inj (Tryz.rt.symm.trans e2)
  have hm : ty ∈ (List.range 218).filter fun t => Tryz.prog.rowNamed t [101, 114, 114, 111, 114] := List.mem_filter.2 ⟨List.mem_range.2 (by rw [← Tryz.size]; exact e3), e4⟩
  rw [Tryz.oneRow] at hm
  obtain rfl := List.mem_singleton.1 hm
  have hh : typeHandle Tryz.prog 32 = .pointer (some ⟨23, 32, none⟩) := by kernel_rfl
  rw [hh] at e5
  simpa using World.var?_cell Tryz.et e5 0
/-- WHAT A LIST OF VARIABLES GIVES THE WALKS, if seven of the errors are on it, the type error's handle and the powers of ten. -/
theorem gl_of_list {L : List (String × DataW Unit)} {W : World} (h : laidMetH Tryz.prog L W)
    (qe : (L.filter fun x => x.1 == "errors.errorType") = [("errors.errorType", Rows.laid_errors_errorType)])
    (qt : (L.filter fun x => x.1 == "internal/strconv.uint64pow10") = [("internal/strconv.uint64pow10", Rows.laid_internal_strconv_uint64pow10)])
    (q1 : (L.filter fun x => x.1 == "eponym/api.ErrByte") = [("eponym/api.ErrByte", Rows.laid_eponym_api_ErrByte)])
    (q2 : (L.filter fun x => x.1 == "eponym/api.ErrEnd") = [("eponym/api.ErrEnd", Rows.laid_eponym_api_ErrEnd)])
    (q4 : (L.filter fun x => x.1 == "eponym/api.ErrRange") = [("eponym/api.ErrRange", Rows.laid_eponym_api_ErrRange)])
    (q5 : (L.filter fun x => x.1 == "eponym/api.ErrForm") = [("eponym/api.ErrForm", Rows.laid_eponym_api_ErrForm)])
    (q7 : (L.filter fun x => x.1 == "eponym/api.ErrThere") = [("eponym/api.ErrThere", Rows.laid_eponym_api_ErrThere)])
    (q9 : (L.filter fun x => x.1 == "eponym/api.ErrDeep") = [("eponym/api.ErrDeep", Rows.laid_eponym_api_ErrDeep)])
    (q17 : (L.filter fun x => x.1 == "eponym/api.ErrKind") = [("eponym/api.ErrKind", Rows.laid_eponym_api_ErrKind)]) : ∃ p, Gl p W ∧ Et W := by
  have he := handle_cell (laid_oneL h _ _ qe)
  have ht : Lib.TabIs Tryz.prog W "internal/strconv.uint64pow10" .u64 Lib.pow10Tab := Lib.tabIs_of_head (g := 20) (by kernel_rfl) (by kernel_rfl) Tryz.underlying157 Tryz.underlying138 (by kernel_rfl) (by kernel_rfl) (laid_oneL h _ _ qt)
  obtain ⟨a1, h1⟩ := sentinel_cell (laid_oneL h _ _ q1) (g := 1) (by kernel_rfl) (by kernel_rfl)
  obtain ⟨a2, h2⟩ := sentinel_cell (laid_oneL h _ _ q2) (g := 2) (by kernel_rfl) (by kernel_rfl)
  obtain ⟨a4, h4⟩ := sentinel_cell (laid_oneL h _ _ q4) (g := 4) (by kernel_rfl) (by kernel_rfl)
  obtain ⟨a5, h5⟩ := sentinel_cell (laid_oneL h _ _ q5) (g := 5) (by kernel_rfl) (by kernel_rfl)
  obtain ⟨a7, h7⟩ := sentinel_cell (laid_oneL h _ _ q7) (g := 7) (by kernel_rfl) (by kernel_rfl)
  obtain ⟨a9, h9⟩ := sentinel_cell (laid_oneL h _ _ q9) (g := 9) (by kernel_rfl) (by kernel_rfl)
  obtain ⟨a17, h17⟩ := sentinel_cell (laid_oneL h _ _ q17) (g := 17) (by kernel_rfl) (by kernel_rfl)
  exact ⟨fun n => if n = 1 then a1 else if n = 2 then a2 else if n = 4 then a4 else if n = 5 then a5 else if n = 7 then a7 else if n = 9 then a9 else a17, ⟨he, h1, h2, h4, h5, h7, h9, h17, ht⟩, he⟩
theorem gl_of_laidCh {W : World} (h : laidMetH Tryz.prog Rows.jsonvalChecksRow.laid W) : ∃ p, Gl p W ∧ Et W :=
  gl_of_list h (by kernel_rfl) (by kernel_rfl) (by kernel_rfl) (by kernel_rfl) (by kernel_rfl) (by kernel_rfl) (by kernel_rfl) (by kernel_rfl) (by kernel_rfl)
theorem gl_of_laidTx {W : World} (h : laidMetH Tryz.prog Rows.jsonvalTextsRow.laid W) : ∃ p, Gl p W := by
  obtain ⟨p, hp, -⟩ := gl_of_list h (by kernel_rfl) (by kernel_rfl) (by kernel_rfl) (by kernel_rfl) (by kernel_rfl) (by kernel_rfl) (by kernel_rfl) (by kernel_rfl) (by kernel_rfl)
  exact ⟨p, hp⟩
theorem gl_of_laidEq {W : World} (h : laidMetH Tryz.prog Rows.jsonvalEqualsRow.laid W) : ∃ p, Gl p W := by
  obtain ⟨p, hp, -⟩ := gl_of_list h (by kernel_rfl) (by kernel_rfl) (by kernel_rfl) (by kernel_rfl) (by kernel_rfl) (by kernel_rfl) (by kernel_rfl) (by kernel_rfl) (by kernel_rfl)
  exact ⟨p, hp⟩
theorem gl_of_laidOn {W : World} (h : laidMetH Tryz.prog Rows.jsonvalOnceRow.laid W) : ∃ p, Gl p W := by
  obtain ⟨p, hp, -⟩ := gl_of_list h (by kernel_rfl) (by kernel_rfl) (by kernel_rfl) (by kernel_rfl) (by kernel_rfl) (by kernel_rfl) (by kernel_rfl) (by kernel_rfl) (by kernel_rfl)
  exact ⟨p, hp⟩
theorem gl_of_laidMk {W : World} (h : laidMetH Tryz.prog Rows.jsonvalMakesRow.laid W) : ∃ p, Gl p W := by
  obtain ⟨p, hp, -⟩ := gl_of_list h (by kernel_rfl) (by kernel_rfl) (by kernel_rfl) (by kernel_rfl) (by kernel_rfl) (by kernel_rfl) (by kernel_rfl) (by kernel_rfl) (by kernel_rfl)
  exact ⟨p, hp⟩
/-- The door's own heap meets the conditions. -/
theorem door_metCh (os : Os) (args : Array Value) : laidMetH Tryz.prog Rows.jsonvalChecksRow.laid ((World.doorLaid Tryz.prog 400 os).forCall (fun _ _ => 0) ⟨#[], args, []⟩).memory :=
  laidMetH_of_parts3 (fuel := 8) (laidMet_of_run' 8 (by kernel_rfl) (by kernel_rfl)) (by kernel_rfl) (by kernel_rfl)
theorem door_metTx (os : Os) (args : Array Value) : laidMetH Tryz.prog Rows.jsonvalTextsRow.laid ((World.doorLaid Tryz.prog 400 os).forCall (fun _ _ => 0) ⟨#[], args, []⟩).memory :=
  laidMetH_of_parts3 (fuel := 8) (laidMet_of_run' 8 (by kernel_rfl) (by kernel_rfl)) (by kernel_rfl) (by kernel_rfl)
theorem door_metEq (os : Os) (args : Array Value) : laidMetH Tryz.prog Rows.jsonvalEqualsRow.laid ((World.doorLaid Tryz.prog 400 os).forCall (fun _ _ => 0) ⟨#[], args, []⟩).memory :=
  laidMetH_of_parts3 (fuel := 8) (laidMet_of_run' 8 (by kernel_rfl) (by kernel_rfl)) (by kernel_rfl) (by kernel_rfl)
theorem door_metOn (os : Os) (args : Array Value) : laidMetH Tryz.prog Rows.jsonvalOnceRow.laid ((World.doorLaid Tryz.prog 400 os).forCall (fun _ _ => 0) ⟨#[], args, []⟩).memory :=
  laidMetH_of_parts3 (fuel := 8) (laidMet_of_run' 8 (by kernel_rfl) (by kernel_rfl)) (by kernel_rfl) (by kernel_rfl)
section
variable {H : Type} {enc : TypeId × Value → H} {W : World}
set_option maxRecDepth 100000 in
set_option maxHeartbeats 2000000 in
theorem open_value {base : Nat} {v : Value} {d : DataW H} {ps : List MemPlace} (hv : Value.okWide Tryz.prog W .any base 25 v) (h : DataW.Trod enc Tryz.prog W 0 (fun _ => true) true 25 v d ps)
    (hw : ∀ x ∈ d.weights Tryz.prog 25, x ≤ reachBytes) : ∃ (t : J) (cs : List Value), v = .agg cs.toArray ∧ Small 140737488355328 t ∧ VJ W t cs := by
  obtain ⟨cs, rfl, hsz⟩ := okWide_struct Tryz.underlying25 hv
  obtain ⟨fuel, hf⟩ := h
  obtain ⟨t, hV, hS⟩ := value_of fuel cs.toList (d, ps) (by simpa [Value.cells] using hf) hw
  exact ⟨t, cs.toList, by simp, hS, hV⟩
set_option maxRecDepth 100000 in
set_option maxHeartbeats 2000000 in
theorem open_values {v : Value} {d : DataW H} {ps : List MemPlace} (hk : ∃ a len cap, v = .slice a len cap) (h : DataW.Trod enc Tryz.prog W 0 (fun _ => true) true 22 v d ps)
    (hw : ∀ x ∈ d.weights Tryz.prog 22, x ≤ reachBytes) : ∃ l : List J, SL W v l ∧ l.length ≤ 140737488355328 ∧ ∀ t ∈ l, Small 140737488355328 t := by
  obtain ⟨fuel, hf⟩ := h
  obtain ⟨a0, len0, cap0, rfl⟩ := hk
  have hf : DataW.trod enc Tryz.prog W 0 (fun _ => true) true fuel 22 [.slice a0 len0 cap0] = some (d, ps) := by simpa [Value.cells] using hf
  obtain ⟨a, len, cap, e, hlb, hel⟩ := slice_parts Tryz.underlying22 hf hw
  rw [e]
  rw [Tryz.bytesV] at hlb
  have hrb : reachBytes = 140737488351232 := rfl
  have each : ∀ i, i < len → ∃ t : J, (∃ ba oa ds, a = some ⟨ba, oa, none⟩ ∧ CellsAt W ba (oa + i * 4) ds 4 ∧ VJ W t ds) ∧ Small 140737488355328 t := by
    intro i hi
    obtain ⟨a', n', cs', z, rfl, rfl, hc, ht, hz⟩ := hel i hi
    rw [Tryz.cellsV] at hc
    obtain ⟨ba, oa, rfl⟩ : ∃ ba oa, a' = ⟨ba, oa, none⟩ := by
      obtain ⟨a1, n1, cs1, z1, e1, -, hc1, -⟩ := hel 0 (by omega)
      obtain rfl := Option.some.inj e1
      rw [Tryz.cellsV] at hc1
      exact spot_at hc1 (by decide)
    obtain ⟨t, hv, hs⟩ := value_of n' cs' z ht hz
    exact ⟨t, ⟨ba, oa, cs', rfl, cells_at hc, hv⟩, hs⟩
  haveI : Inhabited J := ⟨.mk 0 [] [] []⟩
  obtain ⟨q, hq⟩ := choose_lt each
  have hlq : ((List.range len).map q).length = len := by simp
  refine ⟨(List.range len).map q, ⟨a, cap, by rw [hlq], fun j t hj => ?_⟩, by rw [hlq]; omega, fun t ht => ?_⟩
  · obtain ⟨hjl, rfl⟩ := List.getElem?_eq_some_iff.1 hj
    rw [hlq] at hjl
    simpa using (hq j hjl).1
  · obtain ⟨j, hj, rfl⟩ := List.mem_map.1 ht
    exact (hq j (List.mem_range.1 hj)).2
end
theorem door_metMk (os : Os) (args : Array Value) : laidMetH Tryz.prog Rows.jsonvalMakesRow.laid ((World.doorLaid Tryz.prog 400 os).forCall (fun _ _ => 0) ⟨#[], args, []⟩).memory :=
  laidMetH_of_parts3 (fuel := 8) (laidMet_of_run' 8 (by kernel_rfl) (by kernel_rfl)) (by kernel_rfl) (by kernel_rfl)
end Go.Proofs.YtjjoedkigjekcaaGreatDoor

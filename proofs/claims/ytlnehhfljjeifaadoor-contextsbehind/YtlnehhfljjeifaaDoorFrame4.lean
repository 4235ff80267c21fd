/-
  What is proved here: what the rows' condition on package-level variables gives the walks; that it can be met.
-/
import Derived.Test.YtlnehhfljjeifaaDoorCards
import Derived.Test.YtlnehhfljjeifaaDoorTie
import Derived.Test.YtlnehhfljjeifaaDoorBase
import Derived.ProofKit
import Derived.LaidMore
import Derived.OpenShut
import Derived.Stop.Joined
import Derived.Stop.LaidErr
import Derived.LaidSub
import Derived.LaidHandle
import Derived.MakeChecks
namespace Go.Proofs.YtlnehhfljjeifaaDoor
open Go.ChangeShapes Go.WideShapes Go.ChangeAt Go.RowKit

theorem Tryd.own : ownKnob Tryd.prog.godebug = none := by kernel_rfl
theorem Tryd.star : "*" ++ "errors.errorString" = "*errors.errorString" := by decide
theorem Tryd.rowES (u : TypeId) (h : Tryd.prog.typeName? 3 u = some "*errors.errorString") : u = 121 :=
  typeName_ptr_named (nm := "errors.errorString") (by rw [Tryd.star]; kernel_rfl) (by kernel_rfl) (by decide) u (by rw [Tryd.star]; exact h)
theorem Tryd.cellsES : Tryd.prog.cellsOf 140 = 1 := by kernel_rfl
theorem Tryd.cellsS : Tryd.prog.cellsOf 9 = 1 := by kernel_rfl
theorem Tryd.cellsI32 : Tryd.prog.cellsOf 21 = 1 := by kernel_rfl
theorem Tryd.cellsLH : Tryd.prog.cellsOf 98 = 2 := by kernel_rfl
theorem Tryd.cellsHG : Tryd.prog.cellsOf 99 = 8 := by kernel_rfl
/-- one sentinel out of a list of one -/
theorem sentinel_cell {W : World} {n : String} {text : List UInt8} {g : Nat} (h : laidMet Tryd.prog [(n, .iface "*errors.errorString" (.ptr (.agg [.lit (.string text)])))] W)
    (hg : Tryd.prog.globalNamed n = some g) (ht : (Tryd.prog.globals[g]?).map (·.type) = some 35) : ∃ a : Addr, W.cell? ⟨g, 0, none⟩ = some (.iface 121 (.pointer (some a))) := by
  obtain ⟨a, s, hv, _⟩ := laid_sentinel h hg ht Tryd.underlying35 Tryd.rowES Tryd.underlying121 Tryd.underlying140 rfl rfl Tryd.underlying9 Tryd.cellsES Tryd.cellsS
  exact ⟨a, by simpa using World.var?_cell hg hv 0⟩
theorem laid_one {W : World} (h : laidMetH Tryd.prog Rows.contextsDigitsRow.laid W) (n : String) (l : List (String × DataW Unit)) (e : (Rows.contextsDigitsRow.laid.filter fun x => x.1 == n) = l) : laidMetH Tryd.prog l W := by
  rw [← e]; exact h.filter _
/-- a pair of runes -/
theorem lohi_cells {H : Type} {enc : TypeId × Value → H} {W : World} {base : Nat} {sp : Nat → Bool} {held : Bool} {m : Nat} {c0 c1 : Value} {x : DataW H × List MemPlace} {a b : Int}
    (h : DataW.trod enc Tryd.prog W base sp held m 98 [c0, c1] = some x) (hx : x.1 = .agg [.lit (.int .i32 a), .lit (.int .i32 b)]) : c0 = .int .i32 a ∧ c1 = .int .i32 b := by
  obtain ⟨ys, k, hk, hxy, _, hyl, hfl⟩ := DataW.trod_struct Tryd.underlying98 h
  match ys, hyl with
  | [y0, y1], _ =>
    have g0 := hfl 0 _ rfl
    have g1 := hfl 1 _ rfl
    simp [Tryd.cellsI32] at g0 g1
    obtain ⟨n0, e0, f0, -⟩ := DataW.trod_int Tryd.underlying21 g0
    obtain ⟨n1, e1, f1, -⟩ := DataW.trod_int Tryd.underlying21 g1
    subst hxy
    simp at e0 e1
    subst e0 e1
    simp [f0, f1] at hx
    obtain ⟨rfl, rfl⟩ := hx
    exact ⟨rfl, rfl⟩
set_option maxRecDepth 100000 in
theorem hangul_cells {W : World} (h : laidMet Tryd.prog [("eponym/decomp.hangul", Rows.laid_eponym_decomp_hangul)] W) :
    ∀ i, i < 8 → W.cell? ⟨7, i, none⟩ = (#[Value.int .i32 44032, .int .i32 55203, .int .i32 4352, .int .i32 4370, .int .i32 4449, .int .i32 4469, .int .i32 4520, .int .i32 4546] : Array Value)[i]? := by
  obtain ⟨ps, ⟨g0, t0, cs0, f0, p0, q0, hg0, ht0, hv0, hd0, _, e0⟩, _, _⟩ := h
  obtain rfl := Option.some.inj ((show Tryd.prog.globalNamed "eponym/decomp.hangul" = some 7 by kernel_rfl).symm.trans hg0)
  obtain rfl := Option.some.inj ((show (Tryd.prog.globals[7]?).map (·.type) = some 99 by kernel_rfl).symm.trans ht0)
  obtain ⟨l0⟩ := cs0
  obtain ⟨xs, m, -, hx, hlen, hxl, hel⟩ := DataW.trod_array Tryd.underlying99 hd0
  rw [Tryd.cellsHG] at hlen
  match l0, hlen, xs, hxl with
  | [c0, c1, c2, c3, c4, c5, c6, c7], _, [x0, x1, x2, x3], _ =>
    have k0 := hel 0 (by omega)
    have k1 := hel 1 (by omega)
    have k2 := hel 2 (by omega)
    have k3 := hel 3 (by omega)
    simp [Tryd.cellsLH] at k0 k1 k2 k3
    simp [Rows.laid_eponym_decomp_hangul] at hx
    obtain ⟨⟨y0, y1, y2, y3⟩, -⟩ := hx
    obtain ⟨rfl, rfl⟩ := lohi_cells k0 y0.symm
    obtain ⟨rfl, rfl⟩ := lohi_cells k1 y1.symm
    obtain ⟨rfl, rfl⟩ := lohi_cells k2 y2.symm
    obtain ⟨rfl, rfl⟩ := lohi_cells k3 y3.symm
    intro i hi
    rw [World.var?_cell hg0 hv0 i]
/-- WHAT THE CONDITION GIVES THE WALKS. -/
theorem gl_of_laid {W : World} (h : laidMetH Tryd.prog Rows.contextsDigitsRow.laid W) : ∃ p, Gl p W := by
  obtain ⟨a4, h4⟩ := sentinel_cell (laid_one h "eponym/api.ErrRange" [("eponym/api.ErrRange", Rows.laid_eponym_api_ErrRange)] (by kernel_rfl)) (g := 3) (by kernel_rfl) (by kernel_rfl)
  obtain ⟨a5, h5⟩ := sentinel_cell (laid_one h "eponym/api.ErrForm" [("eponym/api.ErrForm", Rows.laid_eponym_api_ErrForm)] (by kernel_rfl)) (g := 6) (by kernel_rfl) (by kernel_rfl)
  obtain ⟨a6, h6⟩ := sentinel_cell (laid_one h "eponym/api.ErrOrder" [("eponym/api.ErrOrder", Rows.laid_eponym_api_ErrOrder)] (by kernel_rfl)) (g := 4) (by kernel_rfl) (by kernel_rfl)
  obtain ⟨a7, h7⟩ := sentinel_cell (laid_one h "eponym/api.ErrThere" [("eponym/api.ErrThere", Rows.laid_eponym_api_ErrThere)] (by kernel_rfl)) (g := 5) (by kernel_rfl) (by kernel_rfl)
  obtain ⟨a9, h9⟩ := sentinel_cell (laid_one h "eponym/api.ErrDeep" [("eponym/api.ErrDeep", Rows.laid_eponym_api_ErrDeep)] (by kernel_rfl)) (g := 1) (by kernel_rfl) (by kernel_rfl)
  obtain ⟨a17, h17⟩ := sentinel_cell (laid_one h "eponym/api.ErrKind" [("eponym/api.ErrKind", Rows.laid_eponym_api_ErrKind)] (by kernel_rfl)) (g := 2) (by kernel_rfl) (by kernel_rfl)
  obtain ⟨a18, h18⟩ := sentinel_cell (laid_one h "eponym/api.ErrFull" [("eponym/api.ErrFull", Rows.laid_eponym_api_ErrFull)] (by kernel_rfl)) (g := 0) (by kernel_rfl) (by kernel_rfl)
  have hh := hangul_cells (laid_one h "eponym/decomp.hangul" [("eponym/decomp.hangul", Rows.laid_eponym_decomp_hangul)] (by kernel_rfl))
  exact ⟨fun n => if n = 4 then a4 else if n = 5 then a5 else if n = 6 then a6 else if n = 7 then a7 else if n = 9 then a9 else if n = 17 then a17 else a18, h4, h5, h6, h7, h9, h17, h18, hh 0 (by omega), hh 1 (by omega), hh 2 (by omega), hh 3 (by omega), hh 4 (by omega), hh 5 (by omega), hh 6 (by omega), hh 7 (by omega)⟩
/-- The door's own heap meets the condition. -/
theorem door_met (os : Os) (args : Array Value) : laidMetH Tryd.prog Rows.contextsDigitsRow.laid ((World.doorLaid Tryd.prog 400 os).forCall (fun _ _ => 0) ⟨#[], args, []⟩).memory :=
  laidMet_of_run' 8 (by kernel_rfl) (by kernel_rfl)
theorem Tryd.laidOut : laidOutB Tryd.prog = true := by kernel_rfl
end Go.Proofs.YtlnehhfljjeifaaDoor

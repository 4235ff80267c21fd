/-
  What is proved here: what the rows' condition on package-level variables gives the walks; that it can be met. · an argument that is a norm, and one that is a list of runes, opened. · what the condition of a row that lists Hangul's runes alone gives the walks; that it can be met.
-/
import Derived.Test.YtdokdmfpoajphaaDoorCards
import Derived.Test.YtdokdmfpoajphaaDoorTie
import Derived.Test.YtdokdmfpoajphaaDoorBase
import Derived.ProofKit
import Derived.LaidMore
import Derived.OpenShut
import Derived.Stop.Joined
import Derived.Stop.LaidErr
import Derived.LaidSub
import Derived.LaidHandle
import Derived.MakeChecks
import Derived.Test.YtdokdmfpoajphaaDoorA1
import Derived.Test.YtdokdmfpoajphaaDoorT3
import Derived.Deep.Slices
import Derived.Deep.DeepHandedRow
import Derived.Lib.SmallJoins
namespace Go.Proofs.YtdokdmfpoajphaaDoor
open Go.ChangeShapes Go.WideShapes Go.ChangeAt Go.RowKit

theorem Tryd.own : ownKnob Tryd.prog.godebug = none := by kernel_rfl
theorem Tryd.star : "*" ++ "errors.errorString" = "*errors.errorString" := by decide
theorem Tryd.rowES (u : TypeId) (h : Tryd.prog.typeName? 3 u = some "*errors.errorString") : u = 155 :=
  typeName_ptr_named (nm := "errors.errorString") (by rw [Tryd.star]; kernel_rfl) (by kernel_rfl) (by decide) u (by rw [Tryd.star]; exact h)
theorem Tryd.cellsES : Tryd.prog.cellsOf 176 = 1 := by kernel_rfl
theorem Tryd.cellsS : Tryd.prog.cellsOf 9 = 1 := by kernel_rfl
theorem Tryd.cellsI32 : Tryd.prog.cellsOf 21 = 1 := by kernel_rfl
theorem Tryd.cellsLH : Tryd.prog.cellsOf 85 = 2 := by kernel_rfl
theorem Tryd.cellsHG : Tryd.prog.cellsOf 86 = 8 := by kernel_rfl
/-- one sentinel out of a list of one -/
theorem sentinel_cell {W : World} {n : String} {text : List UInt8} {g : Nat} (h : laidMet Tryd.prog [(n, .iface "*errors.errorString" (.ptr (.agg [.lit (.string text)])))] W)
    (hg : Tryd.prog.globalNamed n = some g) (ht : (Tryd.prog.globals[g]?).map (·.type) = some 37) : ∃ a : Addr, W.cell? ⟨g, 0, none⟩ = some (.iface 155 (.pointer (some a))) := by
  obtain ⟨a, s, hv, _⟩ := laid_sentinel h hg ht Tryd.underlying37 Tryd.rowES Tryd.underlying155 Tryd.underlying176 rfl rfl Tryd.underlying9 Tryd.cellsES Tryd.cellsS
  exact ⟨a, by simpa using World.var?_cell hg hv 0⟩
theorem laid_one {W : World} (h : laidMetH Tryd.prog Rows.decompAllsRow.laid W) (n : String) (l : List (String × DataW Unit)) (e : (Rows.decompAllsRow.laid.filter fun x => x.1 == n) = l) : laidMetH Tryd.prog l W := by
  rw [← e]; exact h.filter _
/-- a pair of runes -/
theorem lohi_cells {H : Type} {enc : TypeId × Value → H} {W : World} {base : Nat} {sp : Nat → Bool} {held : Bool} {m : Nat} {c0 c1 : Value} {x : DataW H × List MemPlace} {a b : Int}
    (h : DataW.trod enc Tryd.prog W base sp held m 85 [c0, c1] = some x) (hx : x.1 = .agg [.lit (.int .i32 a), .lit (.int .i32 b)]) : c0 = .int .i32 a ∧ c1 = .int .i32 b := by
  obtain ⟨ys, k, hk, hxy, _, hyl, hfl⟩ := DataW.trod_struct Tryd.underlying85 h
  match ys, hyl with
  | [y0, y1], _ =>
    have g0 := hfl 0 _ rfl
    have g1 := hfl 1 _ rfl
    simp [Tryd.cellsI32] at g0 g1
    obtain ⟨n0, e0, f0, -⟩ := DataW.trod_int Tryd.underlying21 g0
    obtain ⟨n1, e1, f1, -⟩ := DataW.trod_int Tryd.underlying21 g1
    subst hxy
    simp at e0 e1
    subst e0 e1
    simp [f0, f1] at hx
    obtain ⟨rfl, rfl⟩ := hx
    exact ⟨rfl, rfl⟩
set_option maxRecDepth 100000 in
theorem hangul_cells {W : World} (h : laidMet Tryd.prog [("eponym/decomp.hangul", Rows.laid_eponym_decomp_hangul)] W) :
    ∀ i, i < 8 → W.cell? ⟨6, i, none⟩ = (#[Value.int .i32 44032, .int .i32 55203, .int .i32 4352, .int .i32 4370, .int .i32 4449, .int .i32 4469, .int .i32 4520, .int .i32 4546] : Array Value)[i]? := by
  obtain ⟨ps, ⟨g0, t0, cs0, f0, p0, q0, hg0, ht0, hv0, hd0, _, e0⟩, _, _⟩ := h
  obtain rfl := Option.some.inj ((show Tryd.prog.globalNamed "eponym/decomp.hangul" = some 6 by kernel_rfl).symm.trans hg0)
  obtain rfl := Option.some.inj ((show (Tryd.prog.globals[6]?).map (·.type) = some 86 by kernel_rfl).symm.trans ht0)
  obtain ⟨l0⟩ := cs0
  obtain ⟨xs, m, -, hx, hlen, hxl, hel⟩ := DataW.trod_array Tryd.underlying86 hd0
  rw [Tryd.cellsHG] at hlen
  match l0, hlen, xs, hxl with
  | [c0, c1, c2, c3, c4, c5, c6, c7], _, [x0, x1, x2, x3], _ =>
    have k0 := hel 0 (by omega)
    have k1 := hel 1 (by omega)
    have k2 := hel 2 (by omega)
    have k3 := hel 3 (by omega)
    simp [Tryd.cellsLH] at k0 k1 k2 k3
    simp [Rows.laid_eponym_decomp_hangul] at hx
    obtain ⟨⟨y0, y1, y2, y3⟩, -⟩ := hx
    obtain ⟨rfl, rfl⟩ := lohi_cells k0 y0.symm
    obtain ⟨rfl, rfl⟩ := lohi_cells k1 y1.symm
    obtain ⟨rfl, rfl⟩ := lohi_cells k2 y2.symm
    obtain ⟨rfl, rfl⟩ := lohi_cells k3 y3.symm
    intro i hi
    rw [World.var?_cell hg0 hv0 i]
/-- WHAT THE CONDITION GIVES THE WALKS. -/
theorem gl_of_laid {W : World} (h : laidMetH Tryd.prog Rows.decompAllsRow.laid W) : ∃ p, Gl p W := by
  obtain ⟨a4, h4⟩ := sentinel_cell (laid_one h "eponym/api.ErrRange" [("eponym/api.ErrRange", Rows.laid_eponym_api_ErrRange)] (by kernel_rfl)) (g := 3) (by kernel_rfl) (by kernel_rfl)
  obtain ⟨a5, h5⟩ := sentinel_cell (laid_one h "eponym/api.ErrForm" [("eponym/api.ErrForm", Rows.laid_eponym_api_ErrForm)] (by kernel_rfl)) (g := 11) (by kernel_rfl) (by kernel_rfl)
  obtain ⟨a6, h6⟩ := sentinel_cell (laid_one h "eponym/api.ErrOrder" [("eponym/api.ErrOrder", Rows.laid_eponym_api_ErrOrder)] (by kernel_rfl)) (g := 4) (by kernel_rfl) (by kernel_rfl)
  obtain ⟨a7, h7⟩ := sentinel_cell (laid_one h "eponym/api.ErrThere" [("eponym/api.ErrThere", Rows.laid_eponym_api_ErrThere)] (by kernel_rfl)) (g := 5) (by kernel_rfl) (by kernel_rfl)
  obtain ⟨a9, h9⟩ := sentinel_cell (laid_one h "eponym/api.ErrDeep" [("eponym/api.ErrDeep", Rows.laid_eponym_api_ErrDeep)] (by kernel_rfl)) (g := 1) (by kernel_rfl) (by kernel_rfl)
  obtain ⟨a17, h17⟩ := sentinel_cell (laid_one h "eponym/api.ErrKind" [("eponym/api.ErrKind", Rows.laid_eponym_api_ErrKind)] (by kernel_rfl)) (g := 2) (by kernel_rfl) (by kernel_rfl)
  obtain ⟨a18, h18⟩ := sentinel_cell (laid_one h "eponym/api.ErrFull" [("eponym/api.ErrFull", Rows.laid_eponym_api_ErrFull)] (by kernel_rfl)) (g := 0) (by kernel_rfl) (by kernel_rfl)
  have hh := hangul_cells (laid_one h "eponym/decomp.hangul" [("eponym/decomp.hangul", Rows.laid_eponym_decomp_hangul)] (by kernel_rfl))
  exact ⟨fun n => if n = 4 then a4 else if n = 5 then a5 else if n = 6 then a6 else if n = 7 then a7 else if n = 9 then a9 else if n = 17 then a17 else a18, h4, h5, h6, h7, h9, h17, h18, hh 0 (by omega), hh 1 (by omega), hh 2 (by omega), hh 3 (by omega), hh 4 (by omega), hh 5 (by omega), hh 6 (by omega), hh 7 (by omega)⟩
/-- The door's own heap meets the condition. -/
theorem door_met (os : Os) (args : Array Value) : laidMetH Tryd.prog Rows.decompAllsRow.laid ((World.doorLaid Tryd.prog 400 os).forCall (fun _ _ => 0) ⟨#[], args, []⟩).memory :=
  laidMet_of_run' 8 (by kernel_rfl) (by kernel_rfl)
theorem Tryd.laidOut : laidOutB Tryd.prog = true := by kernel_rfl
end Go.Proofs.YtdokdmfpoajphaaDoor
namespace Go.Proofs.YtdokdmfpoajphaaDoor
open Go.ChangeShapes Go.WideShapes Go.ChangeAt Go.RowKit Go.Deep

theorem Tryd.cellsRg : Tryd.prog.cellsOf 46 = 3 := by kernel_rfl
theorem Tryd.cellsRw : Tryd.prog.cellsOf 44 = 2 := by kernel_rfl
theorem Tryd.cellsNm : Tryd.prog.cellsOf 26 = 3 := by kernel_rfl
theorem Tryd.cellsI64 : Tryd.prog.cellsOf 3 = 1 := by kernel_rfl
theorem Tryd.cellsRs : Tryd.prog.cellsOf 24 = 1 := by kernel_rfl
section
variable {H : Type} {enc : TypeId × Value → H} {W : World}
set_option maxRecDepth 100000 in
theorem runes_of {n : Nat} {v : Value} {y : DataW H × List MemPlace} (h : DataW.trod enc Tryd.prog W 0 (fun _ => true) true n 24 [v] = some y) : ∃ rs, Runes W v rs ∧ rs.length ≤ maxLen := by
  rcases open_ints Tryd.underlying24 Tryd.underlying21 Tryd.cellsI32 h with ⟨hcs, hx⟩ | ⟨a, len, cap, zs, hcs, _, hl, hm, hz, hx, hcell, hwz⟩
  · obtain rfl : v = .slice none 0 0 := by simpa using hcs
    exact ⟨[], ⟨none, 0, rfl, fun j hj => by simp at hj⟩, by simp⟩
  · obtain rfl : v = .slice (some a) len cap := by simpa using hcs
    simp only [if_true] at hz
    have hlen : (zs.take len).length = len := by rw [List.length_take]; omega
    refine ⟨zs.take len, ⟨some a, cap, by rw [hlen], fun j hj => ?_⟩, by omega⟩
    rw [hlen] at hj
    obtain ⟨b, off, spot⟩ := a
    have hspot : spot = none := by simpa [Addr.add] using World.cell?_spot (hcell 0 (by omega))
    subst hspot
    refine ⟨b, off, rfl, ?_⟩
    have := hcell j (by omega)
    rw [Addr.add_lit] at this
    rw [this]
    simp [List.getD, hj]
set_option maxRecDepth 100000 in
theorem tab_of {n : Nat} {v : Value} {y : DataW H × List MemPlace} (h : DataW.trod enc Tryd.prog W 0 (fun _ => true) true n 23 [v] = some y) : ∃ l, Tab W v l ∧ l.length ≤ maxLen := by
  rcases open_slice Tryd.underlying23 h with ⟨hcs, hx⟩ | ⟨a, len, cap, m, n', D, Pl, hcs, _, hl, hm, hmm, hx, hcell⟩
  · obtain rfl : v = .slice none 0 0 := by simpa using hcs
    exact ⟨[], ⟨none, 0, rfl, fun j hj => by simp at hj⟩, by simp⟩
  · obtain rfl : v = .slice (some a) len cap := by simpa using hcs
    simp only [if_true] at hmm
    subst hmm
    have each : ∀ i, i < m → ∃ r : Rg, ∀ j, j < 3 → W.cell? (a.add (i * 3 + j)) = r.cells[j]? := by
      intro i hi
      obtain ⟨cs', h1, h2⟩ := hcell i hi
      rw [Tryd.cellsRg] at h1
      obtain ⟨_, hlen, hc⟩ := World.cells?_some h1
      obtain ⟨xs, k, hk, hxy, _, hxl, hfl⟩ := DataW.trod_struct Tryd.underlying46 h2
      match xs, hxl, cs', hlen with
      | [y0, y1, y2], _, [v0, v1, v2], _ =>
        have g0 := hfl 0 _ rfl
        have g1 := hfl 1 _ rfl
        have g2 := hfl 2 _ rfl
        simp [Tryd.cellsI32, Tryd.cellsI64] at g0 g1 g2
        obtain ⟨n0, e0, -, -⟩ := DataW.trod_int Tryd.underlying21 g0
        obtain ⟨n1, e1, -, -⟩ := DataW.trod_int Tryd.underlying21 g1
        obtain ⟨n2, e2, -, -⟩ := DataW.trod_int Tryd.underlying3 g2
        simp at e0 e1 e2
        subst e0 e1 e2
        refine ⟨⟨n0, n1, n2⟩, fun j hj => ?_⟩
        have := hc j hj
        rw [add_add] at this
        exact this
    obtain ⟨q, hq⟩ := choose_lt each
    have hlen : ((List.range len).map q).length = len := by simp
    refine ⟨(List.range len).map q, ⟨some a, m, by rw [hlen], fun j hj => ?_⟩, by rw [hlen]; omega⟩
    rw [hlen] at hj
    obtain ⟨b, off, spot⟩ := a
    have h0 := hq j (by omega)
    have hspot : spot = none := by simpa [Addr.add] using World.cell?_spot (hq 0 (by omega) 0 (by omega))
    subst hspot
    refine ⟨b, off, rfl, fun i hi => ?_⟩
    have := h0 i hi
    rw [Addr.add_lit] at this
    rw [Nat.add_assoc, this]
    simp [List.getD, hj]
set_option maxRecDepth 100000 in
theorem rows_of {n : Nat} {v : Value} {y : DataW H × List MemPlace} (h : DataW.trod enc Tryd.prog W 0 (fun _ => true) true n 22 [v] = some y) : ∃ (a : Option Addr) (cap : Nat) (l : List Rw), v = .slice a l.length cap ∧ l.length ≤ cap ∧ Rows4 W (.slice a l.length cap) l ∧ l.length ≤ maxLen := by
  rcases open_slice Tryd.underlying22 h with ⟨hcs, hx⟩ | ⟨a, len, cap, m, n', D, Pl, hcs, _, hl, hm, hmm, hx, hcell⟩
  · obtain rfl : v = .slice none 0 0 := by simpa using hcs
    exact ⟨none, 0, [], rfl, by simp, ⟨none, 0, rfl, fun j hj => by simp at hj⟩, by simp⟩
  · obtain rfl : v = .slice (some a) len cap := by simpa using hcs
    simp only [if_true] at hmm
    subst hmm
    have each : ∀ i, i < m → ∃ r : Rw, W.cell? (a.add (i * 2)) = some (.int .i32 r.fr) ∧ ∃ tv, W.cell? (a.add (i * 2 + 1)) = some tv ∧ Runes W tv r.to := by
      intro i hi
      obtain ⟨cs', h1, h2⟩ := hcell i hi
      rw [Tryd.cellsRw] at h1
      obtain ⟨_, hlen, hc⟩ := World.cells?_some h1
      obtain ⟨xs, k, hk, hxy, _, hxl, hfl⟩ := DataW.trod_struct Tryd.underlying44 h2
      match xs, hxl, cs', hlen with
      | [y0, y1], _, [v0, v1], _ =>
        have g0 := hfl 0 _ rfl
        have g1 := hfl 1 _ rfl
        simp [Tryd.cellsI32, Tryd.cellsRs] at g0 g1
        obtain ⟨n0, e0, -, -⟩ := DataW.trod_int Tryd.underlying21 g0
        simp at e0
        subst e0
        obtain ⟨rs, hrs, -⟩ := runes_of g1
        have c0 := hc 0 (by omega)
        have c1 := hc 1 (by omega)
        rw [add_add] at c0 c1
        exact ⟨⟨n0, rs⟩, by simpa using c0, v1, by simpa using c1, hrs⟩
    obtain ⟨q, hq⟩ := choose_lt each
    have hlen : ((List.range len).map q).length = len := by simp
    refine ⟨some a, m, (List.range len).map q, by rw [hlen], by rw [hlen]; omega, ⟨some a, m, rfl, fun j hj => ?_⟩, by rw [hlen]; omega⟩
    rw [hlen] at hj
    obtain ⟨b, off, spot⟩ := a
    obtain ⟨h0, tv, h1, h2⟩ := hq j (by omega)
    have hspot : spot = none := by simpa [Addr.add] using World.cell?_spot (hq 0 (by omega)).1
    subst hspot
    have er : rw_ ((List.range len).map q) j = q j := by unfold rw_; simp [List.getD, hj]
    rw [er]
    rw [Addr.add_lit] at h0 h1
    exact ⟨b, off, tv, rfl, h0, by rw [Nat.add_assoc]; exact h1, h2⟩
set_option maxRecDepth 100000 in
theorem open_norm {base : Nat} {v : Value} {d : DataW H} {ps : List MemPlace} (hv : Value.okWide Tryd.prog W .any base 26 v) (h : DataW.Trod enc Tryd.prog W 0 (fun _ => true) true 26 v d ps) :
    ∃ (a : Option Addr) (cap : Nat) (vc ve : Value) (t : Nm), v = .agg #[.slice a t.rows.length cap, vc, ve] ∧ t.rows.length ≤ cap ∧ Rows4 W (.slice a t.rows.length cap) t.rows ∧ Tab W vc t.cls ∧ Runes W ve t.exc := by
  obtain ⟨v0, v1, v2, y0, y1, y2, n, rfl, -, -, h0, h1, h2⟩ := Joins.open_agg3 Tryd.underlying26 (by kernel_rfl) Tryd.cellsNm hv h
  obtain ⟨a, cap, l, rfl, hcap, hR, -⟩ := rows_of h0
  obtain ⟨cl, hC, -⟩ := tab_of h1
  obtain ⟨ex, hE, -⟩ := runes_of h2
  exact ⟨a, cap, v1, v2, ⟨l, cl, ex⟩, rfl, hcap, hR, hC, hE⟩
set_option maxRecDepth 100000 in
theorem open_runes {base : Nat} {v : Value} {d : DataW H} {ps : List MemPlace} (hv : Value.okWide Tryd.prog W .any base 24 v) (h : DataW.Trod enc Tryd.prog W 0 (fun _ => true) true 24 v d ps) : ∃ rs, Runes W v rs ∧ rs.length ≤ maxLen := by
  obtain ⟨a0, len, cap, rfl⟩ := okWide_slice Tryd.underlying24 hv
  obtain ⟨fuel, hf⟩ := h
  exact runes_of (by simpa [Value.cells] using hf)
end
end Go.Proofs.YtdokdmfpoajphaaDoor
namespace Go.Proofs.YtdokdmfpoajphaaDoor
open Go.ChangeShapes Go.WideShapes Go.ChangeAt Go.RowKit

theorem gl_of_laidH {W : World} (h : laidMetH Tryd.prog Rows.compPairsRow.laid W) : ∃ _ : Unit, Hg W := by
  have hh := hangul_cells h
  exact ⟨(), hh 0 (by omega), hh 1 (by omega), hh 2 (by omega), hh 3 (by omega), hh 4 (by omega), hh 5 (by omega), hh 6 (by omega), hh 7 (by omega)⟩
theorem door_metH (os : Os) (args : Array Value) : laidMetH Tryd.prog Rows.compPairsRow.laid ((World.doorLaid Tryd.prog 400 os).forCall (fun _ _ => 0) ⟨#[], args, []⟩).memory :=
  laidMet_of_run' 8 (by kernel_rfl) (by kernel_rfl)
end Go.Proofs.YtdokdmfpoajphaaDoor

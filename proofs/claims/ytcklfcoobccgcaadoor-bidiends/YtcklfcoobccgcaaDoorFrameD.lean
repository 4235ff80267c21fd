/-
  What is proved here: arguments that are properties, lists of runes and names, opened; what the rows' condition on package-level variables gives the walks; that it can be met.
-/
import Derived.Test.YtcklfcoobccgcaaDoorCards
import Derived.Test.YtcklfcoobccgcaaDoorTie
import Derived.Test.YtcklfcoobccgcaaDoorD7
import Derived.Test.YtcklfcoobccgcaaDoorDA
import Derived.ProofKit
import Derived.LaidMore
import Derived.OpenShut
import Derived.Stop.Joined
import Derived.Stop.LaidErr
import Derived.LaidSub
import Derived.LaidHandle
import Derived.MakeChecks
import Derived.Deep.Slices
import Derived.Deep.DeepHandedRow
import Derived.Lib.SmallJoins
namespace Go.Proofs.YtcklfcoobccgcaaDoor
open Go.ChangeShapes Go.WideShapes Go.ChangeAt Go.RowKit Go.Deep

theorem Tryd.own : ownKnob Tryd.prog.godebug = none := by kernel_rfl
theorem Tryd.star : "*" ++ "errors.errorString" = "*errors.errorString" := by decide
theorem Tryd.rowES (u : TypeId) (h : Tryd.prog.typeName? 3 u = some "*errors.errorString") : u = 117 :=
  typeName_ptr_named (nm := "errors.errorString") (by rw [Tryd.star]; kernel_rfl) (by kernel_rfl) (by decide) u (by rw [Tryd.star]; exact h)
theorem Tryd.cellsES : Tryd.prog.cellsOf 139 = 1 := by kernel_rfl
theorem Tryd.cellsS : Tryd.prog.cellsOf 9 = 1 := by kernel_rfl
theorem Tryd.cellsI32 : Tryd.prog.cellsOf 21 = 1 := by kernel_rfl
theorem Tryd.cellsRg : Tryd.prog.cellsOf 44 = 3 := by kernel_rfl
theorem Tryd.cellsI64 : Tryd.prog.cellsOf 3 = 1 := by kernel_rfl
theorem Tryd.cellsTG : Tryd.prog.cellsOf 22 = 1 := by kernel_rfl
theorem Tryd.cellsPp : Tryd.prog.cellsOf 24 = 11 := by kernel_rfl
theorem Tryd.cellsRs : Tryd.prog.cellsOf 25 = 1 := by kernel_rfl
theorem Tryd.laidOut : laidOutB Tryd.prog = true := by kernel_rfl
/-- one sentinel out of a list of one -/
theorem sentinel_cell {W : World} {n : String} {text : List UInt8} {g : Nat} (h : laidMet Tryd.prog [(n, .iface "*errors.errorString" (.ptr (.agg [.lit (.string text)])))] W)
    (hg : Tryd.prog.globalNamed n = some g) (ht : (Tryd.prog.globals[g]?).map (·.type) = some 32) : ∃ a : Addr, W.cell? ⟨g, 0, none⟩ = some (.iface 117 (.pointer (some a))) := by
  obtain ⟨a, s, hv, _⟩ := laid_sentinel h hg ht Tryd.underlying32 Tryd.rowES Tryd.underlying117 Tryd.underlying139 rfl rfl Tryd.underlying9 Tryd.cellsES Tryd.cellsS
  exact ⟨a, by simpa using World.var?_cell hg hv 0⟩
theorem laid_oneL {L : List (String × DataW Unit)} {W : World} (h : laidMetH Tryd.prog L W) (n : String) (l : List (String × DataW Unit)) (e : (L.filter fun x => x.1 == n) = l) : laidMetH Tryd.prog l W := by
  rw [← e]; exact h.filter _
/-- WHAT A LIST OF VARIABLES GIVES THE WALKS, if five of the errors are on it. -/
theorem gl_of_list {L : List (String × DataW Unit)} {W : World} (h : laidMetH Tryd.prog L W)
    (q4 : (L.filter fun x => x.1 == "eponym/api.ErrRange") = [("eponym/api.ErrRange", Rows.laid_eponym_api_ErrRange)])
    (q6 : (L.filter fun x => x.1 == "eponym/api.ErrOrder") = [("eponym/api.ErrOrder", Rows.laid_eponym_api_ErrOrder)])
    (q12 : (L.filter fun x => x.1 == "eponym/api.ErrBidi") = [("eponym/api.ErrBidi", Rows.laid_eponym_api_ErrBidi)])
    (q17 : (L.filter fun x => x.1 == "eponym/api.ErrKind") = [("eponym/api.ErrKind", Rows.laid_eponym_api_ErrKind)])
    (q18 : (L.filter fun x => x.1 == "eponym/api.ErrFull") = [("eponym/api.ErrFull", Rows.laid_eponym_api_ErrFull)]) : ∃ p, Gl p W := by
  obtain ⟨a4, h4⟩ := sentinel_cell (laid_oneL h _ _ q4) (g := 5) (by kernel_rfl) (by kernel_rfl)
  obtain ⟨a6, h6⟩ := sentinel_cell (laid_oneL h _ _ q6) (g := 7) (by kernel_rfl) (by kernel_rfl)
  obtain ⟨a12, h12⟩ := sentinel_cell (laid_oneL h _ _ q12) (g := 0) (by kernel_rfl) (by kernel_rfl)
  obtain ⟨a17, h17⟩ := sentinel_cell (laid_oneL h _ _ q17) (g := 17) (by kernel_rfl) (by kernel_rfl)
  obtain ⟨a18, h18⟩ := sentinel_cell (laid_oneL h _ _ q18) (g := 18) (by kernel_rfl) (by kernel_rfl)
  exact ⟨fun n => if n = 4 then a4 else if n = 6 then a6 else if n = 12 then a12 else if n = 17 then a17 else a18, h4, h6, h12, h17, h18⟩
theorem Tryd.et : Tryd.prog.globalNamed "errors.errorType" = some 1 := by kernel_rfl
theorem Tryd.rt : (Tryd.prog.cutTypes.find? (·.1 == "internal/reflectlite.rtype")).map (·.2) = some 95 := by kernel_rfl
theorem Tryd.oneRow : ((List.range 150).filter fun t => Tryd.prog.rowNamed t [101, 114, 114, 111, 114]) = [32] := by kernel_rfl
theorem Tryd.size : Tryd.prog.types.size = 150 := by kernel_rfl
theorem handle_cell {W : World} (h : laidMetH Tryd.prog [("errors.errorType", Rows.laid_errors_errorType)] W) : W.cell? ⟨1, 0, none⟩ = some (.iface 95 (.agg #[.pointer (some ⟨19, 32, none⟩)])) := by
  have h' : laidMet Tryd.prog [] W ∧ handlesMet Tryd.prog [("errors.errorType", Rows.laid_errors_errorType)] W := h
  obtain ⟨name, u, ty, e1, e2, e3, e4, e5⟩ := h'.2 _ (List.mem_singleton.2 rfl)
  have en : name = [101, 114, 114, 111, 114] := (Option.some.inj e1).symm
  subst en
  obtain rfl := Option.some.inj (Tryd.rt.symm.trans e2)
  have hm : ty ∈ (List.range 150).filter fun t => Tryd.prog.rowNamed t [101, 114, 114, 111, 114] := List.mem_filter.2 ⟨List.mem_range.2 (by rw [← Tryd.size]; exact e3), e4⟩
  rw [Tryd.oneRow] at hm
  obtain rfl := List.mem_singleton.1 hm
  have hh : typeHandle Tryd.prog 32 = .pointer (some ⟨19, 32, none⟩) := by kernel_rfl
  rw [hh] at e5
  simpa using World.var?_cell Tryd.et e5 0
theorem gl_of_laidBk {W : World} (h : laidMetH Tryd.prog Rows.bidiBreaksRow.laid W) : ∃ p, Gl p W ∧ Et W := by
  obtain ⟨p, hp⟩ := gl_of_list h (by kernel_rfl) (by kernel_rfl) (by kernel_rfl) (by kernel_rfl) (by kernel_rfl)
  exact ⟨p, hp, handle_cell (laid_oneL h "errors.errorType" [("errors.errorType", Rows.laid_errors_errorType)] (by kernel_rfl))⟩
theorem gl_of_laidNm {W : World} (h : laidMetH Tryd.prog Rows.bidiNamesRow.laid W) : ∃ p, Gl p W ∧ Et W := by
  obtain ⟨p, hp⟩ := gl_of_list h (by kernel_rfl) (by kernel_rfl) (by kernel_rfl) (by kernel_rfl) (by kernel_rfl)
  exact ⟨p, hp, handle_cell (laid_oneL h "errors.errorType" [("errors.errorType", Rows.laid_errors_errorType)] (by kernel_rfl))⟩
theorem gl_of_laidEn {W : World} (h : laidMetH Tryd.prog Rows.bidiEndsRow.laid W) : ∃ p, Gl p W :=
  gl_of_list h (by kernel_rfl) (by kernel_rfl) (by kernel_rfl) (by kernel_rfl) (by kernel_rfl)
/-- The door's own heap meets the conditions. -/
theorem door_metBk (os : Os) (args : Array Value) : laidMetH Tryd.prog Rows.bidiBreaksRow.laid ((World.doorLaid Tryd.prog 400 os).forCall (fun _ _ => 0) ⟨#[], args, []⟩).memory :=
  laidMetH_of_parts3 (fuel := 8) (laidMet_of_run' 8 (by kernel_rfl) (by kernel_rfl)) (by kernel_rfl) (by kernel_rfl)
theorem door_metNm (os : Os) (args : Array Value) : laidMetH Tryd.prog Rows.bidiNamesRow.laid ((World.doorLaid Tryd.prog 400 os).forCall (fun _ _ => 0) ⟨#[], args, []⟩).memory :=
  laidMetH_of_parts3 (fuel := 8) (laidMet_of_run' 8 (by kernel_rfl) (by kernel_rfl)) (by kernel_rfl) (by kernel_rfl)
theorem door_metEn (os : Os) (args : Array Value) : laidMetH Tryd.prog Rows.bidiEndsRow.laid ((World.doorLaid Tryd.prog 400 os).forCall (fun _ _ => 0) ⟨#[], args, []⟩).memory :=
  laidMetH_of_parts3 (fuel := 8) (laidMet_of_run' 8 (by kernel_rfl) (by kernel_rfl)) (by kernel_rfl) (by kernel_rfl)
theorem array11 {α : Type} {cs : Array α} (h : cs.size = 11) : ∃ c0 c1 c2 c3 c4 c5 c6 c7 c8 c9 c10, cs = #[c0, c1, c2, c3, c4, c5, c6, c7, c8, c9, c10] := by
  obtain ⟨l⟩ := cs
  match l, h with
  | [c0, c1, c2, c3, c4, c5, c6, c7, c8, c9, c10], _ => exact ⟨c0, c1, c2, c3, c4, c5, c6, c7, c8, c9, c10, rfl⟩
section
variable {H : Type} {enc : TypeId × Value → H} {W : World}
set_option maxRecDepth 100000 in
theorem runes_of {n : Nat} {v : Value} {y : DataW H × List MemPlace} (h : DataW.trod enc Tryd.prog W 0 (fun _ => true) true n 25 [v] = some y) : ∃ rs, Runes W v rs ∧ rs.length ≤ maxLen := by
  rcases open_ints Tryd.underlying25 Tryd.underlying21 Tryd.cellsI32 h with ⟨hcs, hx⟩ | ⟨a, len, cap, zs, hcs, _, hl, hm, hz, hx, hcell, hwz⟩
  · obtain rfl : v = .slice none 0 0 := by simpa using hcs
    exact ⟨[], ⟨none, 0, rfl, fun j hj => by simp at hj⟩, by simp⟩
  · obtain rfl : v = .slice (some a) len cap := by simpa using hcs
    simp only [if_true] at hz
    have hlen : (zs.take len).length = len := by rw [List.length_take]; omega
    refine ⟨zs.take len, ⟨some a, cap, by rw [hlen], fun j hj => ?_⟩, by omega⟩
    rw [hlen] at hj
    obtain ⟨b, off, spot⟩ := a
    have hspot : spot = none := by simpa [Addr.add] using World.cell?_spot (hcell 0 (by omega))
    subst hspot
    refine ⟨b, off, rfl, ?_⟩
    have := hcell j (by omega)
    rw [Addr.add_lit] at this
    rw [this]
    simp [List.getD, hj]
set_option maxRecDepth 100000 in
theorem tab_of {n : Nat} {v : Value} {y : DataW H × List MemPlace} (h : DataW.trod enc Tryd.prog W 0 (fun _ => true) true n 22 [v] = some y) : ∃ l, Tab W v l ∧ l.length ≤ maxLen := by
  rcases open_slice Tryd.underlying22 h with ⟨hcs, hx⟩ | ⟨a, len, cap, m, n', D, Pl, hcs, _, hl, hm, hmm, hx, hcell⟩
  · obtain rfl : v = .slice none 0 0 := by simpa using hcs
    exact ⟨[], ⟨none, 0, rfl, fun j hj => by simp at hj⟩, by simp⟩
  · obtain rfl : v = .slice (some a) len cap := by simpa using hcs
    simp only [if_true] at hmm
    subst hmm
    have each : ∀ i, i < m → ∃ r : Rg, ∀ j, j < 3 → W.cell? (a.add (i * 3 + j)) = r.cells[j]? := by
      intro i hi
      obtain ⟨cs', h1, h2⟩ := hcell i hi
      rw [Tryd.cellsRg] at h1
      obtain ⟨_, hlen, hc⟩ := World.cells?_some h1
      obtain ⟨xs, k, hk, hxy, _, hxl, hfl⟩ := DataW.trod_struct Tryd.underlying44 h2
      match xs, hxl, cs', hlen with
      | [y0, y1, y2], _, [v0, v1, v2], _ =>
        have g0 := hfl 0 _ rfl
        have g1 := hfl 1 _ rfl
        have g2 := hfl 2 _ rfl
        simp [Tryd.cellsI32, Tryd.cellsI64] at g0 g1 g2
        obtain ⟨n0, e0, -, -⟩ := DataW.trod_int Tryd.underlying21 g0
        obtain ⟨n1, e1, -, -⟩ := DataW.trod_int Tryd.underlying21 g1
        obtain ⟨n2, e2, -, -⟩ := DataW.trod_int Tryd.underlying3 g2
        simp at e0 e1 e2
        subst e0 e1 e2
        refine ⟨⟨n0, n1, n2⟩, fun j hj => ?_⟩
        have := hc j hj
        rw [add_add] at this
        exact this
    obtain ⟨q, hq⟩ := choose_lt each
    have hlen : ((List.range len).map q).length = len := by simp
    refine ⟨(List.range len).map q, ⟨some a, m, by rw [hlen], fun j hj => ?_⟩, by rw [hlen]; omega⟩
    rw [hlen] at hj
    obtain ⟨b, off, spot⟩ := a
    have h0 := hq j (by omega)
    have hspot : spot = none := by simpa [Addr.add] using World.cell?_spot (hq 0 (by omega) 0 (by omega))
    subst hspot
    refine ⟨b, off, rfl, fun i hi => ?_⟩
    have := h0 i hi
    rw [Addr.add_lit] at this
    rw [Nat.add_assoc, this]
    simp [List.getD, hj]
theorem tabS_of {n : Nat} {v : Value} {y : DataW H × List MemPlace} (h : DataW.trod enc Tryd.prog W 0 (fun _ => true) true n 22 [v] = some y) : ∃ (a : Option Addr) (c : Nat) (l : List Rg), v = .slice a l.length c ∧ Tab W (.slice a l.length c) l ∧ l.length ≤ maxLen := by
  obtain ⟨l, hT, hl⟩ := tab_of h
  obtain ⟨a, c, rfl, -⟩ := id hT
  exact ⟨a, c, l, rfl, hT, hl⟩
set_option maxRecDepth 100000 in
set_option maxHeartbeats 2000000 in
theorem props_of {n : Nat} {c3 c4 c5 c6 c7 c8 c9 c10 c11 c12 c13 : Value} {y : DataW H × List MemPlace} (h : DataW.trod enc Tryd.prog W 0 (fun _ => true) true n 24 [c3, c4, c5, c6, c7, c8, c9, c10, c11, c12, c13] = some y) :
    ∃ (a : Nat → Option Addr) (c : Nat → Nat) (t : Nat → List Rg), [c3, c4, c5, c6, c7, c8, c9, c10, c11, c12, c13] = [.slice (a 0) (t 0).length (c 0), .slice (a 1) (t 1).length (c 1), .slice (a 2) (t 2).length (c 2), .slice (a 3) (t 3).length (c 3), .slice (a 4) (t 4).length (c 4), .slice (a 5) (t 5).length (c 5), .slice (a 6) (t 6).length (c 6), .slice (a 7) (t 7).length (c 7), .slice (a 8) (t 8).length (c 8), .slice (a 9) (t 9).length (c 9), .slice (a 10) (t 10).length (c 10)] ∧ PT W a c t ∧ ∀ i, i < 11 → (t i).length ≤ maxLen := by
  obtain ⟨xs, m, _, _, hl, hlen, hfl⟩ := DataW.trod_struct Tryd.underlying24 h
  match xs, hlen with
  | [y0, y1, y2, y3, y4, y5, y6, y7, y8, y9, y10], _ =>
    have g0 := hfl 0 _ rfl
    have g1 := hfl 1 _ rfl
    have g2 := hfl 2 _ rfl
    have g3 := hfl 3 _ rfl
    have g4 := hfl 4 _ rfl
    have g5 := hfl 5 _ rfl
    have g6 := hfl 6 _ rfl
    have g7 := hfl 7 _ rfl
    have g8 := hfl 8 _ rfl
    have g9 := hfl 9 _ rfl
    have g10 := hfl 10 _ rfl
    simp [Tryd.cellsTG] at g0 g1 g2 g3 g4 g5 g6 g7 g8 g9 g10
    obtain ⟨a0, p0, l0, rfl, h0, q0⟩ := tabS_of g0
    obtain ⟨a1, p1, l1, rfl, h1, q1⟩ := tabS_of g1
    obtain ⟨a2, p2, l2, rfl, h2, q2⟩ := tabS_of g2
    obtain ⟨a3, p3, l3, rfl, h3, q3⟩ := tabS_of g3
    obtain ⟨a4, p4, l4, rfl, h4, q4⟩ := tabS_of g4
    obtain ⟨a5, p5, l5, rfl, h5, q5⟩ := tabS_of g5
    obtain ⟨a6, p6, l6, rfl, h6, q6⟩ := tabS_of g6
    obtain ⟨a7, p7, l7, rfl, h7, q7⟩ := tabS_of g7
    obtain ⟨a8, p8, l8, rfl, h8, q8⟩ := tabS_of g8
    obtain ⟨a9, p9, l9, rfl, h9, q9⟩ := tabS_of g9
    obtain ⟨a10, p10, l10, rfl, h10, q10⟩ := tabS_of g10
    refine ⟨fun i => [a0, a1, a2, a3, a4, a5, a6, a7, a8, a9, a10].getD i none, fun i => [p0, p1, p2, p3, p4, p5, p6, p7, p8, p9, p10].getD i 0, fun i => [l0, l1, l2, l3, l4, l5, l6, l7, l8, l9, l10].getD i [], rfl, fun i hi => ?_, fun i hi => ?_⟩
    · rcases (by omega : i = 0 ∨ i = 1 ∨ i = 2 ∨ i = 3 ∨ i = 4 ∨ i = 5 ∨ i = 6 ∨ i = 7 ∨ i = 8 ∨ i = 9 ∨ i = 10) with rfl | rfl | rfl | rfl | rfl | rfl | rfl | rfl | rfl | rfl | rfl
      · exact h0
      · exact h1
      · exact h2
      · exact h3
      · exact h4
      · exact h5
      · exact h6
      · exact h7
      · exact h8
      · exact h9
      · exact h10
    · rcases (by omega : i = 0 ∨ i = 1 ∨ i = 2 ∨ i = 3 ∨ i = 4 ∨ i = 5 ∨ i = 6 ∨ i = 7 ∨ i = 8 ∨ i = 9 ∨ i = 10) with rfl | rfl | rfl | rfl | rfl | rfl | rfl | rfl | rfl | rfl | rfl
      · exact q0
      · exact q1
      · exact q2
      · exact q3
      · exact q4
      · exact q5
      · exact q6
      · exact q7
      · exact q8
      · exact q9
      · exact q10
set_option maxRecDepth 100000 in
set_option maxHeartbeats 2000000 in
theorem open_props {base : Nat} {v : Value} {d : DataW H} {ps : List MemPlace} (hv : Value.okWide Tryd.prog W .any base 24 v) (h : DataW.Trod enc Tryd.prog W 0 (fun _ => true) true 24 v d ps) :
    ∃ (a : Nat → Option Addr) (c : Nat → Nat) (t : Nat → List Rg), v = PV a c t ∧ PT W a c t := by
  obtain ⟨cs, rfl, hsz⟩ := okWide_struct Tryd.underlying24 hv
  obtain ⟨c0, c1, c2, c3, c4, c5, c6, c7, c8, c9, c10, rfl⟩ := array11 (hsz.trans Tryd.cellsPp)
  obtain ⟨fuel, hf⟩ := h
  obtain ⟨a, c, t, e, hT, -⟩ := props_of (show DataW.trod enc Tryd.prog W 0 (fun _ => true) true fuel 24 [c0, c1, c2, c3, c4, c5, c6, c7, c8, c9, c10] = some (d, ps) by simpa [Value.cells] using hf)
  simp only [List.cons.injEq, and_true] at e
  obtain ⟨e0, e1, e2, e3, e4, e5, e6, e7, e8, e9, e10⟩ := e
  refine ⟨a, c, t, ?_, hT⟩
  unfold PV
  rw [e0, e1, e2, e3, e4, e5, e6, e7, e8, e9, e10]
set_option maxRecDepth 100000 in
theorem open_runes {base : Nat} {v : Value} {d : DataW H} {ps : List MemPlace} (hv : Value.okWide Tryd.prog W .any base 25 v) (h : DataW.Trod enc Tryd.prog W 0 (fun _ => true) true 25 v d ps) : ∃ rs, Runes W v rs ∧ rs.length ≤ maxLen := by
  obtain ⟨a0, len, cap, rfl⟩ := okWide_slice Tryd.underlying25 hv
  obtain ⟨fuel, hf⟩ := h
  exact runes_of (by simpa [Value.cells] using hf)
set_option maxRecDepth 100000 in
theorem open_runesZ {base : Nat} {v : Value} {d : DataW H} {ps : List MemPlace} (hv : Value.okWide Tryd.prog W .any base 25 v) (h : DataW.Trod enc Tryd.prog W 0 (fun _ => true) true 25 v d ps) : ∃ (rs : List Int), RunesZ W v rs := by
  obtain ⟨a0, len, cap, rfl⟩ := okWide_slice Tryd.underlying25 hv
  obtain ⟨fuel, hf⟩ := h
  have h : DataW.trod enc Tryd.prog W 0 (fun _ => true) true fuel 25 [.slice a0 len cap] = some (d, ps) := by simpa [Value.cells] using hf
  obtain ⟨rs, hr, -⟩ := runes_of h
  refine ⟨rs, hr, fun n c e => ?_⟩
  rcases open_ints Tryd.underlying25 Tryd.underlying21 Tryd.cellsI32 h with ⟨hcs, hx⟩ | ⟨a, len', cap', zs, hcs, _⟩
  · simp at hcs
    injection e with _ _ e3
    rw [← e3]; exact hcs.2.2
  · simp at hcs
    injection e with e1
    rw [hcs.1] at e1; cases e1
set_option maxRecDepth 100000 in
theorem open_labels {base : Nat} {v : Value} {d : DataW H} {ps : List MemPlace} (hv : Value.okWide Tryd.prog W .any base 35 v) (h : DataW.Trod enc Tryd.prog W 0 (fun _ => true) true 35 v d ps) :
    ∃ (na : Option Addr) (ncap : Nat) (av : Nat → Option Addr) (cv : Nat → Nat) (nm : List (List Int)), v = .slice na nm.length ncap ∧ ElemC W na nm.length (fun j => .slice (av j) (nm.getD j []).length (cv j)) ∧ ∀ j, j < nm.length → Runes W (.slice (av j) (nm.getD j []).length (cv j)) (nm.getD j []) := by
  obtain ⟨a0, len, cap, rfl⟩ := okWide_slice Tryd.underlying35 hv
  obtain ⟨fuel, hf⟩ := h
  have h : DataW.trod enc Tryd.prog W 0 (fun _ => true) true fuel 35 [.slice a0 len cap] = some (d, ps) := by simpa [Value.cells] using hf
  rcases open_slice1 Tryd.underlying35 Tryd.cellsRs h with ⟨hcs, hx⟩ | ⟨a, len', cap', m, n', V, D, Pl, hcs, _, hl, hm, hmm, hx, hcell⟩
  · simp at hcs
    obtain ⟨rfl, rfl, rfl⟩ := hcs
    exact ⟨none, 0, fun _ => none, fun _ => 0, [], rfl, fun j hj => by simp at hj, fun j hj => by simp at hj⟩
  · simp at hcs
    obtain ⟨rfl, rfl, rfl⟩ := hcs
    simp only [if_true] at hmm
    subst hmm
    have each : ∀ i, i < len → ∃ x : Option Addr × Nat × List Int, W.cell? (a.add i) = some (.slice x.1 x.2.2.length x.2.1) ∧ Runes W (.slice x.1 x.2.2.length x.2.1) x.2.2 := by
      intro i hi
      obtain ⟨h1, h2⟩ := hcell i (by omega)
      obtain ⟨rs, hr, -⟩ := runes_of h2
      obtain ⟨ai, ci, ev, -⟩ := id hr
      exact ⟨⟨ai, ci, rs⟩, by rw [h1, ev], by rw [← ev]; exact hr⟩
    obtain ⟨q, hq⟩ := choose_lt each
    have hlen : ((List.range len).map fun i => (q i).2.2).length = len := by simp
    have hat : ∀ j, j < len → ((List.range len).map fun i => (q i).2.2).getD j [] = (q j).2.2 := fun j hj => by simp [List.getD, hj]
    refine ⟨some a, _, fun j => (q j).1, fun j => (q j).2.1, (List.range len).map fun i => (q i).2.2, by rw [hlen], fun j hj => ?_, fun j hj => ?_⟩
    · rw [hlen] at hj
      obtain ⟨b, off, spot⟩ := a
      have hspot : spot = none := by simpa [Addr.add] using World.cell?_spot (hq 0 (by omega)).1
      subst hspot
      refine ⟨b, off, rfl, ?_⟩
      have := (hq j hj).1
      rw [Addr.add_lit] at this
      show W.cell? ⟨b, off + j, none⟩ = some (.slice (q j).1 (((List.range len).map fun i => (q i).2.2).getD j []).length (q j).2.1)
      rw [this, hat j hj]
    · rw [hlen] at hj
      show Runes W (.slice (q j).1 (((List.range len).map fun i => (q i).2.2).getD j []).length (q j).2.1) (((List.range len).map fun i => (q i).2.2).getD j [])
      rw [hat j hj]
      exact (hq j hj).2
end
end Go.Proofs.YtcklfcoobccgcaaDoor

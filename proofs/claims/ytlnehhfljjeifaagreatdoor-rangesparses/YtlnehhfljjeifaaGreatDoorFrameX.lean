/-
  What is proved here: what the rows' condition on package-level variables gives the walks; that it can be met.
-/
import Derived.Test.YtlnehhfljjeifaaGreatDoorCards
import Derived.Test.YtlnehhfljjeifaaGreatDoorTie
import Derived.Test.YtlnehhfljjeifaaGreatDoorF5
import Derived.ProofKit
import Derived.LaidMore
import Derived.OpenShut
import Derived.Stop.Joined
import Derived.Stop.LaidErr
import Derived.Stop.LaidTwo
import Derived.LaidSub
import Derived.LaidHandle
import Derived.MakeChecks
import Derived.Lay
import Derived.Deep.Slices
import Derived.Deep.DeepHandedRow
import Derived.Lib.LaidTab
namespace Go.Proofs.YtlnehhfljjeifaaGreatDoor
open Go.ChangeShapes Go.WideShapes Go.ChangeAt Go.RowKit Go.Deep

theorem Tryz.own : ownKnob Tryz.prog.godebug = none := by kernel_rfl
theorem Tryz.star : "*" ++ "errors.errorString" = "*errors.errorString" := by decide
theorem Tryz.rowES (u : TypeId) (h : Tryz.prog.typeName? 3 u = some "*errors.errorString") : u = 236 :=
  typeName_ptr_named (nm := "errors.errorString") (by rw [Tryz.star]; kernel_rfl) (by kernel_rfl) (by decide) u (by rw [Tryz.star]; exact h)
theorem Tryz.cellsES : Tryz.prog.cellsOf 256 = 1 := by kernel_rfl
theorem Tryz.cellsS : Tryz.prog.cellsOf 9 = 1 := by kernel_rfl
theorem Tryz.et : Tryz.prog.globalNamed "errors.errorType" = some 2 := by kernel_rfl
theorem Tryz.rt : (Tryz.prog.cutTypes.find? (·.1 == "internal/reflectlite.rtype")).map (·.2) = some 144 := by kernel_rfl
theorem Tryz.oneRow : ((List.range 268).filter fun t => Tryz.prog.rowNamed t [101, 114, 114, 111, 114]) = [30] := by kernel_rfl
theorem Tryz.size : Tryz.prog.types.size = 268 := by kernel_rfl

/-- one sentinel out of a list of one -/
theorem sentinel_cell {W : World} {n : String} {text : List UInt8} {g : Nat} (h : laidMet Tryz.prog [(n, .iface "*errors.errorString" (.ptr (.agg [.lit (.string text)])))] W)
    (hg : Tryz.prog.globalNamed n = some g) (ht : (Tryz.prog.globals[g]?).map (·.type) = some 30) : ∃ a : Addr, W.cell? ⟨g, 0, none⟩ = some (.iface 236 (.pointer (some a))) := by
  obtain ⟨a, s, hv, _⟩ := laid_sentinel h hg ht Tryz.underlying30 Tryz.rowES Tryz.underlying236 Tryz.underlying256 rfl rfl Tryz.underlying9 Tryz.cellsES Tryz.cellsS
  exact ⟨a, by simpa using World.var?_cell hg hv 0⟩

theorem handle_cell {W : World} (h : laidMetH Tryz.prog [("errors.errorType", Rows.laid_errors_errorType)] W) : W.cell? ⟨2, 0, none⟩ = some (.iface 144 (.agg #[.pointer (some ⟨27, 30, none⟩)])) := by
  have h' : laidMet Tryz.prog [] W ∧ handlesMet Tryz.prog [("errors.errorType", Rows.laid_errors_errorType)] W := h
  obtain ⟨name, u, ty, e1, e2, e3, e4, e5⟩ := h'.2 _ (List.mem_singleton.2 rfl)
  have en : name = [101, 114, 114, 111, 114] := (Option.some.inj e1).symm
  subst en
  obtain rfl := Option.some.inj (Tryz.rt.symm.trans e2)
  have hm : ty ∈ (List.range 268).filter fun t => Tryz.prog.rowNamed t [101, 114, 114, 111, 114] := List.mem_filter.2 ⟨List.mem_range.2 (by rw [← Tryz.size]; exact e3), e4⟩
  rw [Tryz.oneRow] at hm
  obtain rfl := List.mem_singleton.1 hm
  have hh : typeHandle Tryz.prog 30 = .pointer (some ⟨27, 30, none⟩) := by kernel_rfl
  rw [hh] at e5
  simpa using World.var?_cell Tryz.et e5 0

theorem laid_one {W : World} (h : laidMetH Tryz.prog Rows.rangesTextsRow.laid W) (n : String) (l : List (String × DataW Unit)) (e : (Rows.rangesTextsRow.laid.filter fun x => x.1 == n) = l) : laidMetH Tryz.prog l W := by
  rw [← e]; exact h.filter _
theorem laid_two {W : World} (h : laidMetH Tryz.prog Rows.rangesTextsRow.laid W) (n m : String) (l : List (String × DataW Unit)) (e : (Rows.rangesTextsRow.laid.filter fun x => x.1 == n || x.1 == m) = l) : laidMetH Tryz.prog l W := by
  rw [← e]; exact h.filter _
theorem sentinels_ne {W : World} {n0 n1 : String} {t0 t1 : List UInt8} {g0 g1 : Nat} {a0 a1 : Addr} (h : laidMet Tryz.prog [(n0, .iface "*errors.errorString" (.ptr (.agg [.lit (.string t0)]))), (n1, .iface "*errors.errorString" (.ptr (.agg [.lit (.string t1)])))] W)
    (hg0 : Tryz.prog.globalNamed n0 = some g0) (ht0 : (Tryz.prog.globals[g0]?).map (·.type) = some 30) (hg1 : Tryz.prog.globalNamed n1 = some g1) (ht1 : (Tryz.prog.globals[g1]?).map (·.type) = some 30)
    (c0 : W.cell? ⟨g0, 0, none⟩ = some (.iface 236 (.pointer (some a0)))) (c1 : W.cell? ⟨g1, 0, none⟩ = some (.iface 236 (.pointer (some a1)))) : a0 ≠ a1 := by
  obtain ⟨b0, b1, _, _, _, _, _, _, hv0, hv1, _, _, _, _, _, _, hne, _, _⟩ := laid_sentinels2 h hg0 ht0 hg1 ht1 Tryz.underlying30 Tryz.rowES Tryz.underlying236 Tryz.underlying256 rfl rfl Tryz.underlying9 Tryz.cellsES Tryz.cellsS
  have e0 : W.cell? ⟨g0, 0, none⟩ = some (.iface 236 (.pointer (some b0))) := by simpa using World.var?_cell hg0 hv0 0
  have e1 : W.cell? ⟨g1, 0, none⟩ = some (.iface 236 (.pointer (some b1))) := by simpa using World.var?_cell hg1 hv1 0
  rw [c0] at e0
  rw [c1] at e1
  simp at e0 e1
  rw [e0, e1]; exact hne
theorem sentinels_blk {W : World} {n0 n1 : String} {t0 t1 : List UInt8} {g0 g1 : Nat} {a0 a1 : Addr} (h : laidMet Tryz.prog [(n0, .iface "*errors.errorString" (.ptr (.agg [.lit (.string t0)]))), (n1, .iface "*errors.errorString" (.ptr (.agg [.lit (.string t1)])))] W)
    (hg0 : Tryz.prog.globalNamed n0 = some g0) (ht0 : (Tryz.prog.globals[g0]?).map (·.type) = some 30) (hg1 : Tryz.prog.globalNamed n1 = some g1) (ht1 : (Tryz.prog.globals[g1]?).map (·.type) = some 30)
    (c0 : W.cell? ⟨g0, 0, none⟩ = some (.iface 236 (.pointer (some a0)))) (c1 : W.cell? ⟨g1, 0, none⟩ = some (.iface 236 (.pointer (some a1)))) : Plain W a0 ∧ Plain W a1 := by
  obtain ⟨b0, b1, _, _, k0, k1, u0, u1, hv0, hv1, _, _, _, _, _, _, _, hb0, hb1⟩ := laid_sentinels2 h hg0 ht0 hg1 ht1 Tryz.underlying30 Tryz.rowES Tryz.underlying236 Tryz.underlying256 rfl rfl Tryz.underlying9 Tryz.cellsES Tryz.cellsS
  have e0 : W.cell? ⟨g0, 0, none⟩ = some (.iface 236 (.pointer (some b0))) := by simpa using World.var?_cell hg0 hv0 0
  have e1 : W.cell? ⟨g1, 0, none⟩ = some (.iface 236 (.pointer (some b1))) := by simpa using World.var?_cell hg1 hv1 0
  rw [c0] at e0
  rw [c1] at e1
  simp at e0 e1
  rw [e0, e1]; exact ⟨⟨_, _, hb0⟩, ⟨_, _, hb1⟩⟩
/-- WHAT THE CONDITION GIVES THE WALKS. -/
theorem gl_of_laidY {W : World} (h : laidMetH Tryz.prog Rows.rangesTextsRow.laid W) : ∃ p, GlY p W := by
  have h0 := handle_cell (laid_one h "errors.errorType" [("errors.errorType", Rows.laid_errors_errorType)] (by kernel_rfl))
  obtain ⟨a2, h2⟩ := sentinel_cell (laid_one h "eponym/api.ErrEnd" [("eponym/api.ErrEnd", Rows.laid_eponym_api_ErrEnd)] (by kernel_rfl)) (g := 0) (by kernel_rfl) (by kernel_rfl)
  obtain ⟨a4, h4⟩ := sentinel_cell (laid_one h "eponym/api.ErrRange" [("eponym/api.ErrRange", Rows.laid_eponym_api_ErrRange)] (by kernel_rfl)) (g := 5) (by kernel_rfl) (by kernel_rfl)
  obtain ⟨a5, h5⟩ := sentinel_cell (laid_one h "eponym/api.ErrForm" [("eponym/api.ErrForm", Rows.laid_eponym_api_ErrForm)] (by kernel_rfl)) (g := 1) (by kernel_rfl) (by kernel_rfl)
  obtain ⟨a6, h6⟩ := sentinel_cell (laid_one h "eponym/api.ErrOrder" [("eponym/api.ErrOrder", Rows.laid_eponym_api_ErrOrder)] (by kernel_rfl)) (g := 6) (by kernel_rfl) (by kernel_rfl)
  obtain ⟨a7, h7⟩ := sentinel_cell (laid_one h "eponym/api.ErrThere" [("eponym/api.ErrThere", Rows.laid_eponym_api_ErrThere)] (by kernel_rfl)) (g := 7) (by kernel_rfl) (by kernel_rfl)
  obtain ⟨a18, h18⟩ := sentinel_cell (laid_one h "eponym/api.ErrFull" [("eponym/api.ErrFull", Rows.laid_eponym_api_ErrFull)] (by kernel_rfl)) (g := 18) (by kernel_rfl) (by kernel_rfl)
  have n2_6 : a2 ≠ a6 := sentinels_ne (laid_two h "eponym/api.ErrEnd" "eponym/api.ErrOrder" [("eponym/api.ErrEnd", Rows.laid_eponym_api_ErrEnd), ("eponym/api.ErrOrder", Rows.laid_eponym_api_ErrOrder)] (by kernel_rfl)) (by kernel_rfl) (by kernel_rfl) (by kernel_rfl) (by kernel_rfl) h2 h6
  have n4_6 : a4 ≠ a6 := sentinels_ne (laid_two h "eponym/api.ErrRange" "eponym/api.ErrOrder" [("eponym/api.ErrRange", Rows.laid_eponym_api_ErrRange), ("eponym/api.ErrOrder", Rows.laid_eponym_api_ErrOrder)] (by kernel_rfl)) (by kernel_rfl) (by kernel_rfl) (by kernel_rfl) (by kernel_rfl) h4 h6
  have n5_6 : a5 ≠ a6 := sentinels_ne (laid_two h "eponym/api.ErrForm" "eponym/api.ErrOrder" [("eponym/api.ErrForm", Rows.laid_eponym_api_ErrForm), ("eponym/api.ErrOrder", Rows.laid_eponym_api_ErrOrder)] (by kernel_rfl)) (by kernel_rfl) (by kernel_rfl) (by kernel_rfl) (by kernel_rfl) h5 h6
  have n6_7 : a6 ≠ a7 := sentinels_ne (laid_two h "eponym/api.ErrOrder" "eponym/api.ErrThere" [("eponym/api.ErrOrder", Rows.laid_eponym_api_ErrOrder), ("eponym/api.ErrThere", Rows.laid_eponym_api_ErrThere)] (by kernel_rfl)) (by kernel_rfl) (by kernel_rfl) (by kernel_rfl) (by kernel_rfl) h6 h7
  have n6_18 : a6 ≠ a18 := sentinels_ne (laid_two h "eponym/api.ErrOrder" "eponym/api.ErrFull" [("eponym/api.ErrOrder", Rows.laid_eponym_api_ErrOrder), ("eponym/api.ErrFull", Rows.laid_eponym_api_ErrFull)] (by kernel_rfl)) (by kernel_rfl) (by kernel_rfl) (by kernel_rfl) (by kernel_rfl) h6 h18
  have n2_18 : a2 ≠ a18 := sentinels_ne (laid_two h "eponym/api.ErrEnd" "eponym/api.ErrFull" [("eponym/api.ErrEnd", Rows.laid_eponym_api_ErrEnd), ("eponym/api.ErrFull", Rows.laid_eponym_api_ErrFull)] (by kernel_rfl)) (by kernel_rfl) (by kernel_rfl) (by kernel_rfl) (by kernel_rfl) h2 h18
  have n4_18 : a4 ≠ a18 := sentinels_ne (laid_two h "eponym/api.ErrRange" "eponym/api.ErrFull" [("eponym/api.ErrRange", Rows.laid_eponym_api_ErrRange), ("eponym/api.ErrFull", Rows.laid_eponym_api_ErrFull)] (by kernel_rfl)) (by kernel_rfl) (by kernel_rfl) (by kernel_rfl) (by kernel_rfl) h4 h18
  have n5_18 : a5 ≠ a18 := sentinels_ne (laid_two h "eponym/api.ErrForm" "eponym/api.ErrFull" [("eponym/api.ErrForm", Rows.laid_eponym_api_ErrForm), ("eponym/api.ErrFull", Rows.laid_eponym_api_ErrFull)] (by kernel_rfl)) (by kernel_rfl) (by kernel_rfl) (by kernel_rfl) (by kernel_rfl) h5 h18
  have n7_18 : a7 ≠ a18 := sentinels_ne (laid_two h "eponym/api.ErrThere" "eponym/api.ErrFull" [("eponym/api.ErrThere", Rows.laid_eponym_api_ErrThere), ("eponym/api.ErrFull", Rows.laid_eponym_api_ErrFull)] (by kernel_rfl)) (by kernel_rfl) (by kernel_rfl) (by kernel_rfl) (by kernel_rfl) h7 h18
  have b2 := sentinels_blk (laid_two h "eponym/api.ErrEnd" "eponym/api.ErrFull" [("eponym/api.ErrEnd", Rows.laid_eponym_api_ErrEnd), ("eponym/api.ErrFull", Rows.laid_eponym_api_ErrFull)] (by kernel_rfl)) (by kernel_rfl) (by kernel_rfl) (by kernel_rfl) (by kernel_rfl) h2 h18
  have b4 := sentinels_blk (laid_two h "eponym/api.ErrRange" "eponym/api.ErrFull" [("eponym/api.ErrRange", Rows.laid_eponym_api_ErrRange), ("eponym/api.ErrFull", Rows.laid_eponym_api_ErrFull)] (by kernel_rfl)) (by kernel_rfl) (by kernel_rfl) (by kernel_rfl) (by kernel_rfl) h4 h18
  have b5 := sentinels_blk (laid_two h "eponym/api.ErrForm" "eponym/api.ErrFull" [("eponym/api.ErrForm", Rows.laid_eponym_api_ErrForm), ("eponym/api.ErrFull", Rows.laid_eponym_api_ErrFull)] (by kernel_rfl)) (by kernel_rfl) (by kernel_rfl) (by kernel_rfl) (by kernel_rfl) h5 h18
  have b6 := sentinels_blk (laid_two h "eponym/api.ErrOrder" "eponym/api.ErrFull" [("eponym/api.ErrOrder", Rows.laid_eponym_api_ErrOrder), ("eponym/api.ErrFull", Rows.laid_eponym_api_ErrFull)] (by kernel_rfl)) (by kernel_rfl) (by kernel_rfl) (by kernel_rfl) (by kernel_rfl) h6 h18
  have h64 : Lib.TabIs Tryz.prog W "math/bits.deBruijn64tab" .u8 [0, 1, 56, 2, 57, 49, 28, 3, 61, 58, 42, 50, 38, 29, 17, 4, 62, 47, 59, 36, 45, 43, 51, 22, 53, 39, 33, 30, 24, 18, 12, 5, 63, 55, 48, 27, 60, 41, 37, 16, 46, 35, 44, 21, 52, 32, 23, 11, 54, 26, 40, 15, 34, 20, 31, 10, 25, 14, 19, 9, 13, 8, 7, 6] := Lib.tabIs_of_head (g := 26) (by kernel_rfl) (by kernel_rfl) Tryz.underlying233 Tryz.underlying5 (by kernel_rfl) (by kernel_rfl) (laid_one h "math/bits.deBruijn64tab" [("math/bits.deBruijn64tab", Rows.laid_math_bits_deBruijn64tab)] (by kernel_rfl))
  have hp10 : Lib.TabIs Tryz.prog W "internal/strconv.uint64pow10" .u64 Lib.pow10Tab := Lib.tabIs_of_head (g := 22) (by kernel_rfl) (by kernel_rfl) Tryz.underlying204 Tryz.underlying178 (by kernel_rfl) (by kernel_rfl) (laid_one h "internal/strconv.uint64pow10" [("internal/strconv.uint64pow10", Rows.laid_internal_strconv_uint64pow10)] (by kernel_rfl))
  refine ⟨fun n => if n = 2 then a2 else if n = 4 then a4 else if n = 5 then a5 else if n = 6 then a6 else if n = 7 then a7 else a18, ⟨⟨h0, h2, h4, h5, h6, h7, h18, ?_, ?_⟩, by simpa using h64.cell (g := 26) (by kernel_rfl) 15 (by decide), hp10⟩, ?_⟩
  · intro c hc
    show (if c = 2 then a2 else if c = 4 then a4 else if c = 5 then a5 else if c = 6 then a6 else if c = 7 then a7 else a18) ≠ a6
    simp only [if_neg hc]
    (repeat' split) <;> first | assumption | exact Ne.symm (by assumption)
  · rintro c (rfl | rfl | rfl | rfl | rfl) <;> simp <;> first | assumption | exact Ne.symm (by assumption)
  · rintro c (rfl | rfl | rfl | rfl | rfl) <;> simp <;> first | exact b2.1 | exact b4.1 | exact b5.1 | exact b6.1 | exact b2.2
theorem gl_of_laidX {W : World} (h : laidMetH Tryz.prog Rows.rangesTextsRow.laid W) : ∃ p, GlX p W := by
  obtain ⟨p, hp⟩ := gl_of_laidY h
  exact ⟨p, hp.x⟩
/-- The door's own heap, with the library's two tables laid in it, meets the condition. -/
theorem door_metX (os : Os) (args : Array Value) : laidMetH Tryz.prog Rows.rangesTextsRow.laid (((World.doorLaid Tryz.prog 400 os).layVars Tryz.prog [("unicode.CaseRanges", Rows.laid_unicode_CaseRanges), ("unicode/utf8.first", Rows.laid_unicode_utf8_first)]).forCall (fun _ _ => 0) ⟨#[], args, []⟩).memory :=
  laidMetH_of_parts3 (fuel := 8) (laidMet_layVars (w0 := World.doorLaid Tryz.prog 400 os) ["unicode.CaseRanges", "unicode/utf8.first"] ((List.range (World.doorLaid Tryz.prog 400 os).heap.size).filter fun k => k != 21 && k != 23) (by kernel_rfl) (by kernel_rfl) (by kernel_rfl) (LaidIn.of_run _ 8 (by kernel_rfl) (by kernel_rfl) (by kernel_rfl) (by kernel_rfl))) (by kernel_rfl) (by kernel_rfl)
theorem Tryz.laidOut : laidOutB Tryz.prog = true := by kernel_rfl
theorem maxLen_of_shape {W : World} (h : W.ShapedOpen Tryz.prog) : Ml W := Tryz.laysM145.s1_3 W h
theorem Tryz.cellsRg : Tryz.prog.cellsOf 28 = 3 := by kernel_rfl
theorem Tryz.cellsI32 : Tryz.prog.cellsOf 21 = 1 := by kernel_rfl
theorem Tryz.cellsI64 : Tryz.prog.cellsOf 3 = 1 := by kernel_rfl
set_option maxRecDepth 100000 in
theorem open_ranges {H : Type} {enc : TypeId × Value → H} {W : World} {base : Nat} {v : Value} {d : DataW H} {ps : List MemPlace} (hv : Value.okWide Tryz.prog W .any base 22 v) (h : DataW.Trod enc Tryz.prog W 0 (fun _ => true) true 22 v d ps) :
    ∃ l, Tab W v l ∧ l.length ≤ maxLen := by
  obtain ⟨a0, len, cap, rfl⟩ := okWide_slice Tryz.underlying22 hv
  obtain ⟨fuel, hf⟩ := h
  rcases open_slice Tryz.underlying22 hf with ⟨hcs, hx⟩ | ⟨a, len', cap', m, n, D, Pl, hcs, _, hl, hm, hmm, hx, hcell⟩
  · simp [Value.cells] at hcs
    obtain ⟨rfl, rfl, rfl⟩ := hcs
    exact ⟨[], ⟨none, 0, rfl, fun j hj => by simp at hj⟩, by simp⟩
  · simp [Value.cells] at hcs
    obtain ⟨rfl, rfl, rfl⟩ := hcs
    simp only [if_true] at hmm
    subst hmm
    have each : ∀ i, i < m → ∃ r : Rg, ∀ j, j < 3 → W.cell? (a.add (i * 3 + j)) = r.cells[j]? := by
      intro i hi
      obtain ⟨cs', h1, h2⟩ := hcell i hi
      rw [Tryz.cellsRg] at h1
      obtain ⟨_, hlen, hc⟩ := World.cells?_some h1
      obtain ⟨xs, k, hk, hxy, _, hxl, hfl⟩ := DataW.trod_struct Tryz.underlying28 h2
      match xs, hxl, cs', hlen with
      | [y0, y1, y2], _, [v0, v1, v2], _ =>
        have g0 := hfl 0 _ rfl
        have g1 := hfl 1 _ rfl
        have g2 := hfl 2 _ rfl
        simp [Tryz.cellsI32, Tryz.cellsI64] at g0 g1 g2
        obtain ⟨n0, e0, -, -⟩ := DataW.trod_int Tryz.underlying21 g0
        obtain ⟨n1, e1, -, -⟩ := DataW.trod_int Tryz.underlying21 g1
        obtain ⟨n2, e2, -, -⟩ := DataW.trod_int Tryz.underlying3 g2
        simp at e0 e1 e2
        subst e0 e1 e2
        refine ⟨⟨n0, n1, n2⟩, fun j hj => ?_⟩
        have := hc j hj
        rw [add_add] at this
        exact this
    obtain ⟨q, hq⟩ := choose_lt each
    have hlen : ((List.range len).map q).length = len := by simp
    refine ⟨(List.range len).map q, ⟨some a, m, by rw [hlen], fun j hj => ?_⟩, by rw [hlen]; omega⟩
    rw [hlen] at hj
    obtain ⟨b, off, spot⟩ := a
    have h0 := hq j (by omega)
    have hspot : spot = none := by simpa [Addr.add] using World.cell?_spot (hq 0 (by omega) 0 (by omega))
    subst hspot
    refine ⟨b, off, rfl, fun i hi => ?_⟩
    have := h0 i hi
    rw [Addr.add_lit] at this
    rw [Nat.add_assoc, this]
    simp [List.getD, hj]
end Go.Proofs.YtlnehhfljjeifaaGreatDoor

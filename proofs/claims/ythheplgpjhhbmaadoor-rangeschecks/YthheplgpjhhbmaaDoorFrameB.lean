/-
  What is proved here: what the rows' condition on package-level variables gives the walks, with the memory of the named errors.
-/
import Derived.Test.YthheplgpjhhbmaaDoorFrameR
import Derived.Test.YthheplgpjhhbmaaDoorB1
namespace Go.Proofs.YthheplgpjhhbmaaDoor
open Go.ChangeShapes Go.WideShapes Go.ChangeAt Go.RowKit

theorem sentinels_blk {W : World} {n0 n1 : String} {t0 t1 : List UInt8} {g0 g1 : Nat} {a0 a1 : Addr} (h : laidMet Tryd.prog [(n0, .iface "*errors.errorString" (.ptr (.agg [.lit (.string t0)]))), (n1, .iface "*errors.errorString" (.ptr (.agg [.lit (.string t1)])))] W)
    (hg0 : Tryd.prog.globalNamed n0 = some g0) (ht0 : (Tryd.prog.globals[g0]?).map (·.type) = some 27) (hg1 : Tryd.prog.globalNamed n1 = some g1) (ht1 : (Tryd.prog.globals[g1]?).map (·.type) = some 27)
    (c0 : W.cell? ⟨g0, 0, none⟩ = some (.iface 118 (.pointer (some a0)))) (c1 : W.cell? ⟨g1, 0, none⟩ = some (.iface 118 (.pointer (some a1)))) :
    (∃ cs t, W.heap[a0.block]? = some (.cells cs t (0, 0))) ∧ ∃ cs t, W.heap[a1.block]? = some (.cells cs t (0, 0)) := by
  obtain ⟨b0, b1, _, _, x0, x1, y0, y1, hv0, hv1, _, _, _, _, _, _, _, k0, k1⟩ := laid_sentinels2 h hg0 ht0 hg1 ht1 Tryd.underlying27 Tryd.rowES Tryd.underlying118 Tryd.underlying139 rfl rfl Tryd.underlying9 Tryd.cellsES Tryd.cellsS
  have e0 : W.cell? ⟨g0, 0, none⟩ = some (.iface 118 (.pointer (some b0))) := by simpa using World.var?_cell hg0 hv0 0
  have e1 : W.cell? ⟨g1, 0, none⟩ = some (.iface 118 (.pointer (some b1))) := by simpa using World.var?_cell hg1 hv1 0
  rw [c0] at e0
  rw [c1] at e1
  simp at e0 e1
  rw [e0, e1]; exact ⟨⟨_, _, k0⟩, _, _, k1⟩
/-- WHAT THE CONDITION GIVES THE WALKS. -/
theorem gl_of_laidB {W : World} (h : laidMetH Tryd.prog Rows.rangesFindsRow.laid W) : ∃ p, Gl p W ∧ Gb p W := by
  have h0 := handle_cell (laid_one h "errors.errorType" [("errors.errorType", Rows.laid_errors_errorType)] (by kernel_rfl))
  obtain ⟨a2, h2⟩ := sentinel_cell (laid_one h "eponym/api.ErrEnd" [("eponym/api.ErrEnd", Rows.laid_eponym_api_ErrEnd)] (by kernel_rfl)) (g := 2) (by kernel_rfl) (by kernel_rfl)
  obtain ⟨a4, h4⟩ := sentinel_cell (laid_one h "eponym/api.ErrRange" [("eponym/api.ErrRange", Rows.laid_eponym_api_ErrRange)] (by kernel_rfl)) (g := 8) (by kernel_rfl) (by kernel_rfl)
  obtain ⟨a5, h5⟩ := sentinel_cell (laid_one h "eponym/api.ErrForm" [("eponym/api.ErrForm", Rows.laid_eponym_api_ErrForm)] (by kernel_rfl)) (g := 3) (by kernel_rfl) (by kernel_rfl)
  obtain ⟨a6, h6⟩ := sentinel_cell (laid_one h "eponym/api.ErrOrder" [("eponym/api.ErrOrder", Rows.laid_eponym_api_ErrOrder)] (by kernel_rfl)) (g := 0) (by kernel_rfl) (by kernel_rfl)
  obtain ⟨a7, h7⟩ := sentinel_cell (laid_one h "eponym/api.ErrThere" [("eponym/api.ErrThere", Rows.laid_eponym_api_ErrThere)] (by kernel_rfl)) (g := 1) (by kernel_rfl) (by kernel_rfl)
  obtain ⟨a18, h18⟩ := sentinel_cell (laid_one h "eponym/api.ErrFull" [("eponym/api.ErrFull", Rows.laid_eponym_api_ErrFull)] (by kernel_rfl)) (g := 4) (by kernel_rfl) (by kernel_rfl)
  have n2_6 : a2 ≠ a6 := sentinels_ne (laid_two h "eponym/api.ErrEnd" "eponym/api.ErrOrder" [("eponym/api.ErrEnd", Rows.laid_eponym_api_ErrEnd), ("eponym/api.ErrOrder", Rows.laid_eponym_api_ErrOrder)] (by kernel_rfl)) (by kernel_rfl) (by kernel_rfl) (by kernel_rfl) (by kernel_rfl) h2 h6
  have n4_6 : a4 ≠ a6 := sentinels_ne (laid_two h "eponym/api.ErrRange" "eponym/api.ErrOrder" [("eponym/api.ErrRange", Rows.laid_eponym_api_ErrRange), ("eponym/api.ErrOrder", Rows.laid_eponym_api_ErrOrder)] (by kernel_rfl)) (by kernel_rfl) (by kernel_rfl) (by kernel_rfl) (by kernel_rfl) h4 h6
  have n5_6 : a5 ≠ a6 := sentinels_ne (laid_two h "eponym/api.ErrForm" "eponym/api.ErrOrder" [("eponym/api.ErrForm", Rows.laid_eponym_api_ErrForm), ("eponym/api.ErrOrder", Rows.laid_eponym_api_ErrOrder)] (by kernel_rfl)) (by kernel_rfl) (by kernel_rfl) (by kernel_rfl) (by kernel_rfl) h5 h6
  have n6_7 : a6 ≠ a7 := sentinels_ne (laid_two h "eponym/api.ErrOrder" "eponym/api.ErrThere" [("eponym/api.ErrOrder", Rows.laid_eponym_api_ErrOrder), ("eponym/api.ErrThere", Rows.laid_eponym_api_ErrThere)] (by kernel_rfl)) (by kernel_rfl) (by kernel_rfl) (by kernel_rfl) (by kernel_rfl) h6 h7
  have n6_18 : a6 ≠ a18 := sentinels_ne (laid_two h "eponym/api.ErrOrder" "eponym/api.ErrFull" [("eponym/api.ErrOrder", Rows.laid_eponym_api_ErrOrder), ("eponym/api.ErrFull", Rows.laid_eponym_api_ErrFull)] (by kernel_rfl)) (by kernel_rfl) (by kernel_rfl) (by kernel_rfl) (by kernel_rfl) h6 h18
  have n2_18 : a2 ≠ a18 := sentinels_ne (laid_two h "eponym/api.ErrEnd" "eponym/api.ErrFull" [("eponym/api.ErrEnd", Rows.laid_eponym_api_ErrEnd), ("eponym/api.ErrFull", Rows.laid_eponym_api_ErrFull)] (by kernel_rfl)) (by kernel_rfl) (by kernel_rfl) (by kernel_rfl) (by kernel_rfl) h2 h18
  have n4_18 : a4 ≠ a18 := sentinels_ne (laid_two h "eponym/api.ErrRange" "eponym/api.ErrFull" [("eponym/api.ErrRange", Rows.laid_eponym_api_ErrRange), ("eponym/api.ErrFull", Rows.laid_eponym_api_ErrFull)] (by kernel_rfl)) (by kernel_rfl) (by kernel_rfl) (by kernel_rfl) (by kernel_rfl) h4 h18
  have n5_18 : a5 ≠ a18 := sentinels_ne (laid_two h "eponym/api.ErrForm" "eponym/api.ErrFull" [("eponym/api.ErrForm", Rows.laid_eponym_api_ErrForm), ("eponym/api.ErrFull", Rows.laid_eponym_api_ErrFull)] (by kernel_rfl)) (by kernel_rfl) (by kernel_rfl) (by kernel_rfl) (by kernel_rfl) h5 h18
  have n7_18 : a7 ≠ a18 := sentinels_ne (laid_two h "eponym/api.ErrThere" "eponym/api.ErrFull" [("eponym/api.ErrThere", Rows.laid_eponym_api_ErrThere), ("eponym/api.ErrFull", Rows.laid_eponym_api_ErrFull)] (by kernel_rfl)) (by kernel_rfl) (by kernel_rfl) (by kernel_rfl) (by kernel_rfl) h7 h18
  obtain ⟨b2, b18_2⟩ := sentinels_blk (laid_two h "eponym/api.ErrEnd" "eponym/api.ErrFull" [("eponym/api.ErrEnd", Rows.laid_eponym_api_ErrEnd), ("eponym/api.ErrFull", Rows.laid_eponym_api_ErrFull)] (by kernel_rfl)) (by kernel_rfl) (by kernel_rfl) (by kernel_rfl) (by kernel_rfl) h2 h18
  obtain ⟨b4, b18_4⟩ := sentinels_blk (laid_two h "eponym/api.ErrRange" "eponym/api.ErrFull" [("eponym/api.ErrRange", Rows.laid_eponym_api_ErrRange), ("eponym/api.ErrFull", Rows.laid_eponym_api_ErrFull)] (by kernel_rfl)) (by kernel_rfl) (by kernel_rfl) (by kernel_rfl) (by kernel_rfl) h4 h18
  obtain ⟨b5, b18_5⟩ := sentinels_blk (laid_two h "eponym/api.ErrForm" "eponym/api.ErrFull" [("eponym/api.ErrForm", Rows.laid_eponym_api_ErrForm), ("eponym/api.ErrFull", Rows.laid_eponym_api_ErrFull)] (by kernel_rfl)) (by kernel_rfl) (by kernel_rfl) (by kernel_rfl) (by kernel_rfl) h5 h18
  obtain ⟨b6, b18_6⟩ := sentinels_blk (laid_two h "eponym/api.ErrOrder" "eponym/api.ErrFull" [("eponym/api.ErrOrder", Rows.laid_eponym_api_ErrOrder), ("eponym/api.ErrFull", Rows.laid_eponym_api_ErrFull)] (by kernel_rfl)) (by kernel_rfl) (by kernel_rfl) (by kernel_rfl) (by kernel_rfl) h6 h18
  obtain ⟨b7, b18_7⟩ := sentinels_blk (laid_two h "eponym/api.ErrThere" "eponym/api.ErrFull" [("eponym/api.ErrThere", Rows.laid_eponym_api_ErrThere), ("eponym/api.ErrFull", Rows.laid_eponym_api_ErrFull)] (by kernel_rfl)) (by kernel_rfl) (by kernel_rfl) (by kernel_rfl) (by kernel_rfl) h7 h18
  refine ⟨fun n => if n = 2 then a2 else if n = 4 then a4 else if n = 5 then a5 else if n = 6 then a6 else if n = 7 then a7 else a18, ⟨h0, h2, h4, h5, h6, h7, h18, ?_, ?_⟩, ?_⟩
  · intro c hc
    show (if c = 2 then a2 else if c = 4 then a4 else if c = 5 then a5 else if c = 6 then a6 else if c = 7 then a7 else a18) ≠ a6
    simp only [if_neg hc]
    (repeat' split) <;> first | assumption | exact Ne.symm (by assumption)
  · rintro c (rfl | rfl | rfl | rfl | rfl) <;> simp <;> first | assumption | exact Ne.symm (by assumption)
  · intro c
    show ∃ cs t, W.heap[(if c = 2 then a2 else if c = 4 then a4 else if c = 5 then a5 else if c = 6 then a6 else if c = 7 then a7 else a18).block]? = some (.cells cs t (0, 0))
    (repeat' split) <;> assumption
end Go.Proofs.YthheplgpjhhbmaaDoor

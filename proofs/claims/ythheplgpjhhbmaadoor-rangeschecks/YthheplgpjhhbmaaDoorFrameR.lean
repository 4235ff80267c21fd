/-
  What is proved here: an argument that is a list of ranges, opened; that the world's shape gives MaxLen.
-/
import Derived.Test.YthheplgpjhhbmaaDoorFrame
import Derived.Test.YthheplgpjhhbmaaDoorP2
import Derived.Test.YthheplgpjhhbmaaDoorT3
import Derived.Deep.Slices
import Derived.Deep.DeepHandedRow
namespace Go.Proofs.YthheplgpjhhbmaaDoor
open Go.ChangeShapes Go.WideShapes Go.ChangeAt Go.RowKit Go.Deep

theorem maxLen_of_shape {W : World} (h : W.ShapedOpen Tryd.prog) : Ml W := Tryd.laysM145.s1_3 W h
theorem Tryd.cellsRg : Tryd.prog.cellsOf 37 = 3 := by kernel_rfl
theorem Tryd.cellsI32 : Tryd.prog.cellsOf 21 = 1 := by kernel_rfl
theorem Tryd.cellsI64 : Tryd.prog.cellsOf 3 = 1 := by kernel_rfl
set_option maxRecDepth 100000 in
theorem open_ranges {H : Type} {enc : TypeId × Value → H} {W : World} {base : Nat} {v : Value} {d : DataW H} {ps : List MemPlace} (hv : Value.okWide Tryd.prog W .any base 22 v) (h : DataW.Trod enc Tryd.prog W 0 (fun _ => true) true 22 v d ps) :
    ∃ l, Tab W v l ∧ l.length ≤ maxLen := by
  obtain ⟨a0, len, cap, rfl⟩ := okWide_slice Tryd.underlying22 hv
  obtain ⟨fuel, hf⟩ := h
  rcases open_slice Tryd.underlying22 hf with ⟨hcs, hx⟩ | ⟨a, len', cap', m, n, D, Pl, hcs, _, hl, hm, hmm, hx, hcell⟩
  · simp [Value.cells] at hcs
    obtain ⟨rfl, rfl, rfl⟩ := hcs
    exact ⟨[], ⟨none, 0, rfl, fun j hj => by simp at hj⟩, by simp⟩
  · simp [Value.cells] at hcs
    obtain ⟨rfl, rfl, rfl⟩ := hcs
    simp only [if_true] at hmm
    subst hmm
    have each : ∀ i, i < m → ∃ r : Rg, ∀ j, j < 3 → W.cell? (a.add (i * 3 + j)) = r.cells[j]? := by
      intro i hi
      obtain ⟨cs', h1, h2⟩ := hcell i hi
      rw [Tryd.cellsRg] at h1
      obtain ⟨_, hlen, hc⟩ := World.cells?_some h1
      obtain ⟨xs, k, hk, hxy, _, hxl, hfl⟩ := DataW.trod_struct Tryd.underlying37 h2
      match xs, hxl, cs', hlen with
      | [y0, y1, y2], _, [v0, v1, v2], _ =>
        have g0 := hfl 0 _ rfl
        have g1 := hfl 1 _ rfl
        have g2 := hfl 2 _ rfl
        simp [Tryd.cellsI32, Tryd.cellsI64] at g0 g1 g2
        obtain ⟨n0, e0, -, -⟩ := DataW.trod_int Tryd.underlying21 g0
        obtain ⟨n1, e1, -, -⟩ := DataW.trod_int Tryd.underlying21 g1
        obtain ⟨n2, e2, -, -⟩ := DataW.trod_int Tryd.underlying3 g2
        simp at e0 e1 e2
        subst e0 e1 e2
        refine ⟨⟨n0, n1, n2⟩, fun j hj => ?_⟩
        have := hc j hj
        rw [add_add] at this
        exact this
    obtain ⟨q, hq⟩ := choose_lt each
    have hlen : ((List.range len).map q).length = len := by simp
    refine ⟨(List.range len).map q, ⟨some a, m, by rw [hlen], fun j hj => ?_⟩, by rw [hlen]; omega⟩
    rw [hlen] at hj
    obtain ⟨b, off, spot⟩ := a
    have h0 := hq j (by omega)
    have hspot : spot = none := by simpa [Addr.add] using World.cell?_spot (hq 0 (by omega) 0 (by omega))
    subst hspot
    refine ⟨b, off, rfl, fun i hi => ?_⟩
    have := h0 i hi
    rw [Addr.add_lit] at this
    rw [Nat.add_assoc, this]
    simp [List.getD, hj]
end Go.Proofs.YthheplgpjhhbmaaDoor

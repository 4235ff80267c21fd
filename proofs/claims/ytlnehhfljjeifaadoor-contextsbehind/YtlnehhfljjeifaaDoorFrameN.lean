/-
  What is proved here: an argument that is a norm, and one that is a list of runes, opened.
-/
import Derived.Test.YtlnehhfljjeifaaDoorFrame4
import Derived.Test.YtlnehhfljjeifaaDoorAM
import Derived.Test.YtlnehhfljjeifaaDoorT3
import Derived.Deep.Slices
import Derived.Deep.DeepHandedRow
import Derived.Lib.SmallJoins
namespace Go.Proofs.YtlnehhfljjeifaaDoor
open Go.ChangeShapes Go.WideShapes Go.ChangeAt Go.RowKit Go.Deep

theorem Tryd.cellsRg : Tryd.prog.cellsOf 77 = 3 := by kernel_rfl
theorem Tryd.cellsRw : Tryd.prog.cellsOf 53 = 2 := by kernel_rfl
theorem Tryd.cellsNm : Tryd.prog.cellsOf 26 = 3 := by kernel_rfl
theorem Tryd.cellsI64 : Tryd.prog.cellsOf 3 = 1 := by kernel_rfl
theorem Tryd.cellsRs : Tryd.prog.cellsOf 24 = 1 := by kernel_rfl
section
variable {H : Type} {enc : TypeId × Value → H} {W : World}
set_option maxRecDepth 100000 in
theorem runes_of {n : Nat} {v : Value} {y : DataW H × List MemPlace} (h : DataW.trod enc Tryd.prog W 0 (fun _ => true) true n 24 [v] = some y) : ∃ rs, Runes W v rs ∧ rs.length ≤ maxLen := by
  rcases open_ints Tryd.underlying24 Tryd.underlying21 Tryd.cellsI32 h with ⟨hcs, hx⟩ | ⟨a, len, cap, zs, hcs, _, hl, hm, hz, hx, hcell, hwz⟩
  · obtain rfl : v = .slice none 0 0 := by simpa using hcs
    exact ⟨[], ⟨none, 0, rfl, fun j hj => by simp at hj⟩, by simp⟩
  · obtain rfl : v = .slice (some a) len cap := by simpa using hcs
    simp only [if_true] at hz
    have hlen : (zs.take len).length = len := by rw [List.length_take]; omega
    refine ⟨zs.take len, ⟨some a, cap, by rw [hlen], fun j hj => ?_⟩, by omega⟩
    rw [hlen] at hj
    obtain ⟨b, off, spot⟩ := a
    have hspot : spot = none := by simpa [Addr.add] using World.cell?_spot (hcell 0 (by omega))
    subst hspot
    refine ⟨b, off, rfl, ?_⟩
    have := hcell j (by omega)
    rw [Addr.add_lit] at this
    rw [this]
    simp [List.getD, hj]
set_option maxRecDepth 100000 in
theorem tab_of {n : Nat} {v : Value} {y : DataW H × List MemPlace} (h : DataW.trod enc Tryd.prog W 0 (fun _ => true) true n 23 [v] = some y) : ∃ l, Tab W v l ∧ l.length ≤ maxLen := by
  rcases open_slice Tryd.underlying23 h with ⟨hcs, hx⟩ | ⟨a, len, cap, m, n', D, Pl, hcs, _, hl, hm, hmm, hx, hcell⟩
  · obtain rfl : v = .slice none 0 0 := by simpa using hcs
    exact ⟨[], ⟨none, 0, rfl, fun j hj => by simp at hj⟩, by simp⟩
  · obtain rfl : v = .slice (some a) len cap := by simpa using hcs
    simp only [if_true] at hmm
    subst hmm
    have each : ∀ i, i < m → ∃ r : Rg, ∀ j, j < 3 → W.cell? (a.add (i * 3 + j)) = r.cells[j]? := by
      intro i hi
      obtain ⟨cs', h1, h2⟩ := hcell i hi
      rw [Tryd.cellsRg] at h1
      obtain ⟨_, hlen, hc⟩ := World.cells?_some h1
      obtain ⟨xs, k, hk, hxy, _, hxl, hfl⟩ := DataW.trod_struct Tryd.underlying77 h2
      match xs, hxl, cs', hlen with
      | [y0, y1, y2], _, [v0, v1, v2], _ =>
        have g0 := hfl 0 _ rfl
        have g1 := hfl 1 _ rfl
        have g2 := hfl 2 _ rfl
        simp [Tryd.cellsI32, Tryd.cellsI64] at g0 g1 g2
        obtain ⟨n0, e0, -, -⟩ := DataW.trod_int Tryd.underlying21 g0
        obtain ⟨n1, e1, -, -⟩ := DataW.trod_int Tryd.underlying21 g1
        obtain ⟨n2, e2, -, -⟩ := DataW.trod_int Tryd.underlying3 g2
        simp at e0 e1 e2
        subst e0 e1 e2
        refine ⟨⟨n0, n1, n2⟩, fun j hj => ?_⟩
        have := hc j hj
        rw [add_add] at this
        exact this
    obtain ⟨q, hq⟩ := choose_lt each
    have hlen : ((List.range len).map q).length = len := by simp
    refine ⟨(List.range len).map q, ⟨some a, m, by rw [hlen], fun j hj => ?_⟩, by rw [hlen]; omega⟩
    rw [hlen] at hj
    obtain ⟨b, off, spot⟩ := a
    have h0 := hq j (by omega)
    have hspot : spot = none := by simpa [Addr.add] using World.cell?_spot (hq 0 (by omega) 0 (by omega))
    subst hspot
    refine ⟨b, off, rfl, fun i hi => ?_⟩
    have := h0 i hi
    rw [Addr.add_lit] at this
    rw [Nat.add_assoc, this]
    simp [List.getD, hj]
set_option maxRecDepth 100000 in
theorem rows_of {n : Nat} {v : Value} {y : DataW H × List MemPlace} (h : DataW.trod enc Tryd.prog W 0 (fun _ => true) true n 22 [v] = some y) : ∃ (a : Option Addr) (cap : Nat) (l : List Rw), v = .slice a l.length cap ∧ l.length ≤ cap ∧ Rows4 W (.slice a l.length cap) l ∧ l.length ≤ maxLen := by
  rcases open_slice Tryd.underlying22 h with ⟨hcs, hx⟩ | ⟨a, len, cap, m, n', D, Pl, hcs, _, hl, hm, hmm, hx, hcell⟩
  · obtain rfl : v = .slice none 0 0 := by simpa using hcs
    exact ⟨none, 0, [], rfl, by simp, ⟨none, 0, rfl, fun j hj => by simp at hj⟩, by simp⟩
  · obtain rfl : v = .slice (some a) len cap := by simpa using hcs
    simp only [if_true] at hmm
    subst hmm
    have each : ∀ i, i < m → ∃ r : Rw, W.cell? (a.add (i * 2)) = some (.int .i32 r.fr) ∧ ∃ tv, W.cell? (a.add (i * 2 + 1)) = some tv ∧ Runes W tv r.to := by
      intro i hi
      obtain ⟨cs', h1, h2⟩ := hcell i hi
      rw [Tryd.cellsRw] at h1
      obtain ⟨_, hlen, hc⟩ := World.cells?_some h1
      obtain ⟨xs, k, hk, hxy, _, hxl, hfl⟩ := DataW.trod_struct Tryd.underlying53 h2
      match xs, hxl, cs', hlen with
      | [y0, y1], _, [v0, v1], _ =>
        have g0 := hfl 0 _ rfl
        have g1 := hfl 1 _ rfl
        simp [Tryd.cellsI32, Tryd.cellsRs] at g0 g1
        obtain ⟨n0, e0, -, -⟩ := DataW.trod_int Tryd.underlying21 g0
        simp at e0
        subst e0
        obtain ⟨rs, hrs, -⟩ := runes_of g1
        have c0 := hc 0 (by omega)
        have c1 := hc 1 (by omega)
        rw [add_add] at c0 c1
        exact ⟨⟨n0, rs⟩, by simpa using c0, v1, by simpa using c1, hrs⟩
    obtain ⟨q, hq⟩ := choose_lt each
    have hlen : ((List.range len).map q).length = len := by simp
    refine ⟨some a, m, (List.range len).map q, by rw [hlen], by rw [hlen]; omega, ⟨some a, m, rfl, fun j hj => ?_⟩, by rw [hlen]; omega⟩
    rw [hlen] at hj
    obtain ⟨b, off, spot⟩ := a
    obtain ⟨h0, tv, h1, h2⟩ := hq j (by omega)
    have hspot : spot = none := by simpa [Addr.add] using World.cell?_spot (hq 0 (by omega)).1
    subst hspot
    have er : rw_ ((List.range len).map q) j = q j := by unfold rw_; simp [List.getD, hj]
    rw [er]
    rw [Addr.add_lit] at h0 h1
    exact ⟨b, off, tv, rfl, h0, by rw [Nat.add_assoc]; exact h1, h2⟩
set_option maxRecDepth 100000 in
theorem open_norm {base : Nat} {v : Value} {d : DataW H} {ps : List MemPlace} (hv : Value.okWide Tryd.prog W .any base 26 v) (h : DataW.Trod enc Tryd.prog W 0 (fun _ => true) true 26 v d ps) :
    ∃ (a : Option Addr) (cap : Nat) (vc ve : Value) (t : Nm), v = .agg #[.slice a t.rows.length cap, vc, ve] ∧ t.rows.length ≤ cap ∧ Rows4 W (.slice a t.rows.length cap) t.rows ∧ Tab W vc t.cls ∧ Runes W ve t.exc := by
  obtain ⟨v0, v1, v2, y0, y1, y2, n, rfl, -, -, h0, h1, h2⟩ := Joins.open_agg3 Tryd.underlying26 (by kernel_rfl) Tryd.cellsNm hv h
  obtain ⟨a, cap, l, rfl, hcap, hR, -⟩ := rows_of h0
  obtain ⟨cl, hC, -⟩ := tab_of h1
  obtain ⟨ex, hE, -⟩ := runes_of h2
  exact ⟨a, cap, v1, v2, ⟨l, cl, ex⟩, rfl, hcap, hR, hC, hE⟩
set_option maxRecDepth 100000 in
theorem open_runes {base : Nat} {v : Value} {d : DataW H} {ps : List MemPlace} (hv : Value.okWide Tryd.prog W .any base 24 v) (h : DataW.Trod enc Tryd.prog W 0 (fun _ => true) true 24 v d ps) : ∃ rs, Runes W v rs ∧ rs.length ≤ maxLen := by
  obtain ⟨a0, len, cap, rfl⟩ := okWide_slice Tryd.underlying24 hv
  obtain ⟨fuel, hf⟩ := h
  exact runes_of (by simpa [Value.cells] using hf)
end
end Go.Proofs.YtlnehhfljjeifaaDoor

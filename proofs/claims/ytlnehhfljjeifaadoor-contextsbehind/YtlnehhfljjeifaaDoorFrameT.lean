/-
  What is proved here: an argument that is tables, opened.
-/
import Derived.Test.YtlnehhfljjeifaaDoorLF
import Derived.Test.YtlnehhfljjeifaaDoorFrameN
namespace Go.Proofs.YtlnehhfljjeifaaDoor
open Go.ChangeShapes Go.WideShapes Go.ChangeAt Go.RowKit Go.Deep

theorem Tryd.cellsTG : Tryd.prog.cellsOf 23 = 1 := by kernel_rfl
theorem Tryd.cellsRW : Tryd.prog.cellsOf 22 = 1 := by kernel_rfl
theorem Tryd.cellsPR : Tryd.prog.cellsOf 29 = 1 := by kernel_rfl
theorem Tryd.cellsPp : Tryd.prog.cellsOf 28 = 11 := by kernel_rfl
theorem Tryd.cellsTs : Tryd.prog.cellsOf 31 = 15 := by kernel_rfl
theorem array15 {α : Type} {cs : Array α} (h : cs.size = 15) : ∃ c0 c1 c2 c3 c4 c5 c6 c7 c8 c9 c10 c11 c12 c13 c14, cs = #[c0, c1, c2, c3, c4, c5, c6, c7, c8, c9, c10, c11, c12, c13, c14] := by
  obtain ⟨l⟩ := cs
  match l, h with
  | [c0, c1, c2, c3, c4, c5, c6, c7, c8, c9, c10, c11, c12, c13, c14], _ => exact ⟨c0, c1, c2, c3, c4, c5, c6, c7, c8, c9, c10, c11, c12, c13, c14, rfl⟩
section
variable {H : Type} {enc : TypeId × Value → H} {W : World}
theorem tabS_of {n : Nat} {v : Value} {y : DataW H × List MemPlace} (h : DataW.trod enc Tryd.prog W 0 (fun _ => true) true n 23 [v] = some y) : ∃ (a : Option Addr) (c : Nat) (l : List Rg), v = .slice a l.length c ∧ Tab W (.slice a l.length c) l ∧ l.length ≤ maxLen := by
  obtain ⟨l, hT, hl⟩ := tab_of h
  obtain ⟨a, c, rfl, -⟩ := id hT
  exact ⟨a, c, l, rfl, hT, hl⟩
theorem pairs_of {n : Nat} {v : Value} {y : DataW H × List MemPlace} (h : DataW.trod enc Tryd.prog W 0 (fun _ => true) true n 29 [v] = some y) : ∃ (a : Option Addr) (l c : Nat), v = .slice a l c := by
  rcases open_slice Tryd.underlying29 h with ⟨hcs, hx⟩ | ⟨a, len, cap, m, n', D, Pl, hcs, _⟩
  · exact ⟨none, 0, 0, by simpa using hcs⟩
  · exact ⟨some a, len, cap, by simpa using hcs⟩
set_option maxRecDepth 100000 in
theorem norm_of {n : Nat} {v0 v1 v2 : Value} {y : DataW H × List MemPlace} (h : DataW.trod enc Tryd.prog W 0 (fun _ => true) true n 26 [v0, v1, v2] = some y) :
    ∃ (a : Option Addr) (cap : Nat) (t : Nm), v0 = .slice a t.rows.length cap ∧ t.rows.length ≤ cap ∧ Rows4 W (.slice a t.rows.length cap) t.rows ∧ Tab W v1 t.cls ∧ Runes W v2 t.exc := by
  obtain ⟨xs, m, _, _, hl, hlen, hfl⟩ := DataW.trod_struct Tryd.underlying26 h
  match xs, hlen with
  | [y0, y1, y2], _ =>
    have g0 := hfl 0 _ rfl
    have g1 := hfl 1 _ rfl
    have g2 := hfl 2 _ rfl
    simp [Tryd.cellsRW, Tryd.cellsTG, Tryd.cellsRs] at g0 g1 g2
    obtain ⟨a, cap, l, rfl, hcap, hR, -⟩ := rows_of g0
    obtain ⟨cl, hC, -⟩ := tab_of g1
    obtain ⟨ex, hE, -⟩ := runes_of g2
    exact ⟨a, cap, ⟨l, cl, ex⟩, rfl, hcap, hR, hC, hE⟩
set_option maxRecDepth 100000 in
set_option maxHeartbeats 2000000 in
theorem props_of {n : Nat} {c3 c4 c5 c6 c7 c8 c9 c10 c11 c12 c13 : Value} {y : DataW H × List MemPlace} (h : DataW.trod enc Tryd.prog W 0 (fun _ => true) true n 28 [c3, c4, c5, c6, c7, c8, c9, c10, c11, c12, c13] = some y) :
    ∃ (a : Nat → Option Addr) (c : Nat → Nat) (t : Nat → List Rg), [c3, c4, c5, c6, c7, c8, c9, c10, c11, c12, c13] = [.slice (a 0) (t 0).length (c 0), .slice (a 1) (t 1).length (c 1), .slice (a 2) (t 2).length (c 2), .slice (a 3) (t 3).length (c 3), .slice (a 4) (t 4).length (c 4), .slice (a 5) (t 5).length (c 5), .slice (a 6) (t 6).length (c 6), .slice (a 7) (t 7).length (c 7), .slice (a 8) (t 8).length (c 8), .slice (a 9) (t 9).length (c 9), .slice (a 10) (t 10).length (c 10)] ∧ PT W a c t ∧ ∀ i, i < 11 → (t i).length ≤ maxLen := by
  obtain ⟨xs, m, _, _, hl, hlen, hfl⟩ := DataW.trod_struct Tryd.underlying28 h
  match xs, hlen with
  | [y0, y1, y2, y3, y4, y5, y6, y7, y8, y9, y10], _ =>
    have g0 := hfl 0 _ rfl
    have g1 := hfl 1 _ rfl
    have g2 := hfl 2 _ rfl
    have g3 := hfl 3 _ rfl
    have g4 := hfl 4 _ rfl
    have g5 := hfl 5 _ rfl
    have g6 := hfl 6 _ rfl
    have g7 := hfl 7 _ rfl
    have g8 := hfl 8 _ rfl
    have g9 := hfl 9 _ rfl
    have g10 := hfl 10 _ rfl
    simp [Tryd.cellsTG] at g0 g1 g2 g3 g4 g5 g6 g7 g8 g9 g10
    obtain ⟨a0, p0, l0, rfl, h0, q0⟩ := tabS_of g0
    obtain ⟨a1, p1, l1, rfl, h1, q1⟩ := tabS_of g1
    obtain ⟨a2, p2, l2, rfl, h2, q2⟩ := tabS_of g2
    obtain ⟨a3, p3, l3, rfl, h3, q3⟩ := tabS_of g3
    obtain ⟨a4, p4, l4, rfl, h4, q4⟩ := tabS_of g4
    obtain ⟨a5, p5, l5, rfl, h5, q5⟩ := tabS_of g5
    obtain ⟨a6, p6, l6, rfl, h6, q6⟩ := tabS_of g6
    obtain ⟨a7, p7, l7, rfl, h7, q7⟩ := tabS_of g7
    obtain ⟨a8, p8, l8, rfl, h8, q8⟩ := tabS_of g8
    obtain ⟨a9, p9, l9, rfl, h9, q9⟩ := tabS_of g9
    obtain ⟨a10, p10, l10, rfl, h10, q10⟩ := tabS_of g10
    refine ⟨fun i => [a0, a1, a2, a3, a4, a5, a6, a7, a8, a9, a10].getD i none, fun i => [p0, p1, p2, p3, p4, p5, p6, p7, p8, p9, p10].getD i 0, fun i => [l0, l1, l2, l3, l4, l5, l6, l7, l8, l9, l10].getD i [], rfl, fun i hi => ?_, fun i hi => ?_⟩
    · rcases (by omega : i = 0 ∨ i = 1 ∨ i = 2 ∨ i = 3 ∨ i = 4 ∨ i = 5 ∨ i = 6 ∨ i = 7 ∨ i = 8 ∨ i = 9 ∨ i = 10) with rfl | rfl | rfl | rfl | rfl | rfl | rfl | rfl | rfl | rfl | rfl
      · exact h0
      · exact h1
      · exact h2
      · exact h3
      · exact h4
      · exact h5
      · exact h6
      · exact h7
      · exact h8
      · exact h9
      · exact h10
    · rcases (by omega : i = 0 ∨ i = 1 ∨ i = 2 ∨ i = 3 ∨ i = 4 ∨ i = 5 ∨ i = 6 ∨ i = 7 ∨ i = 8 ∨ i = 9 ∨ i = 10) with rfl | rfl | rfl | rfl | rfl | rfl | rfl | rfl | rfl | rfl | rfl
      · exact q0
      · exact q1
      · exact q2
      · exact q3
      · exact q4
      · exact q5
      · exact q6
      · exact q7
      · exact q8
      · exact q9
      · exact q10
set_option maxRecDepth 100000 in
set_option maxHeartbeats 2000000 in
theorem open_tables {base : Nat} {v : Value} {d : DataW H} {ps : List MemPlace} (hv : Value.okWide Tryd.prog W .any base 31 v) (h : DataW.Trod enc Tryd.prog W 0 (fun _ => true) true 31 v d ps) :
    ∃ (ra : Option Addr) (rcap : Nat) (vc ve : Value) (n : Nm) (a : Nat → Option Addr) (c : Nat → Nat) (t : Nat → List Rg) (la : Option Addr) (ln lc : Nat), v = TV (.slice ra n.rows.length rcap) vc ve a c t (.slice la ln lc) ∧ n.rows.length ≤ rcap ∧ Rows4 W (.slice ra n.rows.length rcap) n.rows ∧ Tab W vc n.cls ∧ Runes W ve n.exc ∧ PT W a c t ∧ ∀ i, i < 11 → (t i).length ≤ maxLen := by
  obtain ⟨cs, rfl, hsz⟩ := okWide_struct Tryd.underlying31 hv
  obtain ⟨c0, c1, c2, c3, c4, c5, c6, c7, c8, c9, c10, c11, c12, c13, c14, rfl⟩ := array15 (hsz.trans Tryd.cellsTs)
  obtain ⟨fuel, hf⟩ := h
  obtain ⟨xs, m, _, _, hl, hlen, hfl⟩ := DataW.trod_struct Tryd.underlying31 hf
  match xs, hlen with
  | [y0, y1, y2], _ =>
    have g0 := hfl 0 _ rfl
    have g1 := hfl 1 _ rfl
    have g2 := hfl 2 _ rfl
    simp [Tryd.cellsNm, Tryd.cellsPp, Tryd.cellsPR, Value.cells] at g0 g1 g2
    obtain ⟨la, ln, lc, rfl⟩ := pairs_of g2
    obtain ⟨ra, rcap, n, rfl, h1, h2, h3, h4⟩ := norm_of g0
    obtain ⟨a, c, t, e, h5, h6⟩ := props_of g1
    simp only [List.cons.injEq, and_true] at e
    obtain ⟨e0, e1, e2, e3, e4, e5, e6, e7, e8, e9, e10⟩ := e
    refine ⟨ra, rcap, c1, c2, n, a, c, t, la, ln, lc, ?_, h1, h2, h3, h4, h5, h6⟩
    unfold TV
    rw [e0, e1, e2, e3, e4, e5, e6, e7, e8, e9, e10]
end
end Go.Proofs.YtlnehhfljjeifaaDoor

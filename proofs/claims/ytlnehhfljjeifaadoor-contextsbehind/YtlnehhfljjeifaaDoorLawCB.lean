/-
  What is proved here: that ContextsBehind answers true at any tables and two lists of runes.
-/
import Derived.Test.YtlnehhfljjeifaaDoorLawCD
import Derived.Test.YtlnehhfljjeifaaDoorAQ
import Derived.Deep.RegionHeld3
namespace Go.Proofs.YtlnehhfljjeifaaDoor
open Go.RowKit Go.Shelf

set_option maxRecDepth 20000 in
set_option maxHeartbeats 16000000 in
theorem behind8_big (w : World) (p : Nat → Addr) (hg : Gl p w) (ra la : Option Addr) (rcap ln lc : Nat) (vc ve : Value) (n : Nm) (a : Nat → Option Addr) (c : Nat → Nat) (t : Nat → List Rg) (hcap : n.rows.length ≤ rcap) (hR : Rows4 w (.slice ra n.rows.length rcap) n.rows) (hC : Tab w vc n.cls) (hE : Runes w ve n.exc) (hT : PT w a c t) (vl : Value) (l : List Int) (hvzl : RunesZ w vl l) (vm : Value) (m : List Int) (hvzm : RunesZ w vm m) (hbig : great8 n t = true ∨ 12 < l.length ∨ 12 < m.length) :
    Calls Tryd.prog 4 #[TV (.slice ra n.rows.length rcap) vc ve a c t (.slice la ln lc), vl, vm] w fun e w' => e = .returned (.bool true) ∧ Below w.heap.size w w' := by
  obtain ⟨ca, ccap, rfl, -⟩ := id hC
  obtain ⟨ea, ecap, rfl, -⟩ := id hE
  obtain ⟨hvl, hzl⟩ := hvzl
  obtain ⟨ql, cl, rfl, hvj⟩ := id hvl
  obtain ⟨hvm, hzm⟩ := hvzm
  obtain ⟨qm, cm, rfl, -⟩ := id hvm
  obtain ⟨W0, hW0, hsz0, hb0, hB⟩ := tab_box w (.slice ra n.rows.length rcap) (.slice ca n.cls.length ccap) (.slice ea n.exc.length ecap) a c t (.slice la ln lc)
  have HA := Hid.mk' (awake8_any W0)
  have HGr : Hid (∀ W, Below w.heap.size w W → _) := fun W hb => great8_any ra ca ea la rcap ccap ecap ln lc n a c t W (hR.below hb) (hC.below hb) (hE.below hb)
  have HB : Hid (∀ W, Below W0.heap.size W0 W → Below w.heap.size w W ∧ TB W w.heap.size (.slice ra n.rows.length rcap) (.slice ca n.cls.length ccap) (.slice ea n.exc.length ecap) a c t (.slice la ln lc)) := fun W hb => ⟨hb0.trans (hb.mono hb0.size), hB.below hb (by omega)⟩
  unfold TV at HGr ⊢
  have _u := Hid.mk' (And.intro hg (And.intro hcap hT))
  cases hgr : great8 n t
  rotate_left
  · rw [hgr] at HGr
    clear hgr hg hR hC hE hT hb0 hB hvl hvj hzl hvm hzm hcap hbig _u
    go_enter Tryd.func4, Tryd.ntmps4
    go_wp2_with fail
    refine HA.out.mono ?_
    rintro e w1 ⟨rfl, hb1⟩
    obtain ⟨hbw1, hB1⟩ := HB.out w1 hb1
    have xr := hB1.r
    have xk := hB1.k
    have xe := hB1.e
    have xl := hB1.l
    have x0 : w1.cell? ⟨w.heap.size, 3, none⟩ = some (.slice (a 0) (t 0).length (c 0)) := hB1.p 0 (by omega)
    have x1 : w1.cell? ⟨w.heap.size, 4, none⟩ = some (.slice (a 1) (t 1).length (c 1)) := hB1.p 1 (by omega)
    have x2 : w1.cell? ⟨w.heap.size, 5, none⟩ = some (.slice (a 2) (t 2).length (c 2)) := hB1.p 2 (by omega)
    have x3 : w1.cell? ⟨w.heap.size, 6, none⟩ = some (.slice (a 3) (t 3).length (c 3)) := hB1.p 3 (by omega)
    have x4 : w1.cell? ⟨w.heap.size, 7, none⟩ = some (.slice (a 4) (t 4).length (c 4)) := hB1.p 4 (by omega)
    have x5 : w1.cell? ⟨w.heap.size, 8, none⟩ = some (.slice (a 5) (t 5).length (c 5)) := hB1.p 5 (by omega)
    have x6 : w1.cell? ⟨w.heap.size, 9, none⟩ = some (.slice (a 6) (t 6).length (c 6)) := hB1.p 6 (by omega)
    have x7 : w1.cell? ⟨w.heap.size, 10, none⟩ = some (.slice (a 7) (t 7).length (c 7)) := hB1.p 7 (by omega)
    have x8 : w1.cell? ⟨w.heap.size, 11, none⟩ = some (.slice (a 8) (t 8).length (c 8)) := hB1.p 8 (by omega)
    have x9 : w1.cell? ⟨w.heap.size, 12, none⟩ = some (.slice (a 9) (t 9).length (c 9)) := hB1.p 9 (by omega)
    have x10 : w1.cell? ⟨w.heap.size, 13, none⟩ = some (.slice (a 10) (t 10).length (c 10)) := hB1.p 10 (by omega)
    go_wp2_with fail
    refine (HGr.out w1 hbw1).mono ?_
    rintro e w2 ⟨rfl, hb2⟩
    go_wp2
    go_ret
    exact ⟨rfl, hbw1.trans (hb2.mono hbw1.size)⟩
  rw [hgr] at HGr
  by_cases hlll : 12 < l.length
  · have hdl : decide ((12 : Int) < (l.length : Int)) = true := decide_eq_true (by omega)
    have hdl2 : decide (12 < l.length) = true := decide_eq_true hlll
    clear hgr hg hR hC hE hT hb0 hB hvl hvj hzl hvm hzm hcap hbig _u
    go_enter Tryd.func4, Tryd.ntmps4
    go_wp2_with fail
    refine HA.out.mono ?_
    rintro e w1 ⟨rfl, hb1⟩
    obtain ⟨hbw1, hB1⟩ := HB.out w1 hb1
    have xr := hB1.r
    have xk := hB1.k
    have xe := hB1.e
    have xl := hB1.l
    have x0 : w1.cell? ⟨w.heap.size, 3, none⟩ = some (.slice (a 0) (t 0).length (c 0)) := hB1.p 0 (by omega)
    have x1 : w1.cell? ⟨w.heap.size, 4, none⟩ = some (.slice (a 1) (t 1).length (c 1)) := hB1.p 1 (by omega)
    have x2 : w1.cell? ⟨w.heap.size, 5, none⟩ = some (.slice (a 2) (t 2).length (c 2)) := hB1.p 2 (by omega)
    have x3 : w1.cell? ⟨w.heap.size, 6, none⟩ = some (.slice (a 3) (t 3).length (c 3)) := hB1.p 3 (by omega)
    have x4 : w1.cell? ⟨w.heap.size, 7, none⟩ = some (.slice (a 4) (t 4).length (c 4)) := hB1.p 4 (by omega)
    have x5 : w1.cell? ⟨w.heap.size, 8, none⟩ = some (.slice (a 5) (t 5).length (c 5)) := hB1.p 5 (by omega)
    have x6 : w1.cell? ⟨w.heap.size, 9, none⟩ = some (.slice (a 6) (t 6).length (c 6)) := hB1.p 6 (by omega)
    have x7 : w1.cell? ⟨w.heap.size, 10, none⟩ = some (.slice (a 7) (t 7).length (c 7)) := hB1.p 7 (by omega)
    have x8 : w1.cell? ⟨w.heap.size, 11, none⟩ = some (.slice (a 8) (t 8).length (c 8)) := hB1.p 8 (by omega)
    have x9 : w1.cell? ⟨w.heap.size, 12, none⟩ = some (.slice (a 9) (t 9).length (c 9)) := hB1.p 9 (by omega)
    have x10 : w1.cell? ⟨w.heap.size, 13, none⟩ = some (.slice (a 10) (t 10).length (c 10)) := hB1.p 10 (by omega)
    go_wp2_with fail
    refine (HGr.out w1 hbw1).mono ?_
    rintro e w2 ⟨rfl, hb2⟩
    go_wp2
    go_ret
    exact ⟨rfl, hbw1.trans (hb2.mono hbw1.size)⟩
  have hdl : decide ((12 : Int) < (l.length : Int)) = false := decide_eq_false (by omega)
  have hdl2 : decide (12 < l.length) = false := decide_eq_false hlll
  have hllm : 12 < m.length := by
    rcases hbig with h | h | h
    · rw [hgr] at h; cases h
    · exact absurd h hlll
    · exact h
  have hdm : decide ((12 : Int) < (m.length : Int)) = true := decide_eq_true (by omega)
  have hdm2 : decide (12 < m.length) = true := decide_eq_true hllm
  clear hgr hg hR hC hE hT hb0 hB hvl hvj hzl hvm hzm hcap hbig _u
  go_enter Tryd.func4, Tryd.ntmps4
  go_wp2_with fail
  refine HA.out.mono ?_
  rintro e w1 ⟨rfl, hb1⟩
  obtain ⟨hbw1, hB1⟩ := HB.out w1 hb1
  have xr := hB1.r
  have xk := hB1.k
  have xe := hB1.e
  have xl := hB1.l
  have x0 : w1.cell? ⟨w.heap.size, 3, none⟩ = some (.slice (a 0) (t 0).length (c 0)) := hB1.p 0 (by omega)
  have x1 : w1.cell? ⟨w.heap.size, 4, none⟩ = some (.slice (a 1) (t 1).length (c 1)) := hB1.p 1 (by omega)
  have x2 : w1.cell? ⟨w.heap.size, 5, none⟩ = some (.slice (a 2) (t 2).length (c 2)) := hB1.p 2 (by omega)
  have x3 : w1.cell? ⟨w.heap.size, 6, none⟩ = some (.slice (a 3) (t 3).length (c 3)) := hB1.p 3 (by omega)
  have x4 : w1.cell? ⟨w.heap.size, 7, none⟩ = some (.slice (a 4) (t 4).length (c 4)) := hB1.p 4 (by omega)
  have x5 : w1.cell? ⟨w.heap.size, 8, none⟩ = some (.slice (a 5) (t 5).length (c 5)) := hB1.p 5 (by omega)
  have x6 : w1.cell? ⟨w.heap.size, 9, none⟩ = some (.slice (a 6) (t 6).length (c 6)) := hB1.p 6 (by omega)
  have x7 : w1.cell? ⟨w.heap.size, 10, none⟩ = some (.slice (a 7) (t 7).length (c 7)) := hB1.p 7 (by omega)
  have x8 : w1.cell? ⟨w.heap.size, 11, none⟩ = some (.slice (a 8) (t 8).length (c 8)) := hB1.p 8 (by omega)
  have x9 : w1.cell? ⟨w.heap.size, 12, none⟩ = some (.slice (a 9) (t 9).length (c 9)) := hB1.p 9 (by omega)
  have x10 : w1.cell? ⟨w.heap.size, 13, none⟩ = some (.slice (a 10) (t 10).length (c 10)) := hB1.p 10 (by omega)
  go_wp2_with fail
  refine (HGr.out w1 hbw1).mono ?_
  rintro e w2 ⟨rfl, hb2⟩
  go_wp2
  go_ret
  exact ⟨rfl, hbw1.trans (hb2.mono hbw1.size)⟩
set_option maxRecDepth 20000 in
set_option maxHeartbeats 16000000 in
theorem behind8_any (w : World) (p : Nat → Addr) (hg : Gl p w) (ra la : Option Addr) (rcap ln lc : Nat) (vc ve : Value) (n : Nm) (a : Nat → Option Addr) (c : Nat → Nat) (t : Nat → List Rg) (hcap : n.rows.length ≤ rcap) (hR : Rows4 w (.slice ra n.rows.length rcap) n.rows) (hC : Tab w vc n.cls) (hE : Runes w ve n.exc) (hT : PT w a c t) (vl : Value) (l : List Int) (hvzl : RunesZ w vl l) (vm : Value) (m : List Int) (hvzm : RunesZ w vm m) :
    Calls Tryd.prog 4 #[TV (.slice ra n.rows.length rcap) vc ve a c t (.slice la ln lc), vl, vm] w fun e w' => e = .returned (.bool true) ∧ Below w.heap.size w w' := by
  by_cases hbig : great8 n t = true ∨ 12 < l.length ∨ 12 < m.length
  · exact behind8_big w p hg ra la rcap ln lc vc ve n a c t hcap hR hC hE hT vl l hvzl vm m hvzm hbig
  have hgr : great8 n t = false := by
    cases h : great8 n t
    · rfl
    · exact absurd (.inl h) hbig
  have hlll : ¬ 12 < l.length := fun h => hbig (.inr (.inl h))
  have hllm : ¬ 12 < m.length := fun h => hbig (.inr (.inr h))
  clear hbig
  obtain ⟨ca, ccap, rfl, -⟩ := id hC
  obtain ⟨ea, ecap, rfl, -⟩ := id hE
  obtain ⟨hvl, hzl⟩ := hvzl
  obtain ⟨ql, cl, rfl, hvj⟩ := id hvl
  obtain ⟨hvm, hzm⟩ := hvzm
  obtain ⟨qm, cm, rfl, -⟩ := id hvm
  obtain ⟨W0, hW0, hsz0, hb0, hB⟩ := tab_box w (.slice ra n.rows.length rcap) (.slice ca n.cls.length ccap) (.slice ea n.exc.length ecap) a c t (.slice la ln lc)
  have HA := Hid.mk' (awake8_any W0)
  have HGr : Hid (∀ W, Below w.heap.size w W → _) := fun W hb => great8_any ra ca ea la rcap ccap ecap ln lc n a c t W (hR.below hb) (hC.below hb) (hE.below hb)
  have HB : Hid (∀ W, Below W0.heap.size W0 W → Below w.heap.size w W ∧ TB W w.heap.size (.slice ra n.rows.length rcap) (.slice ca n.cls.length ccap) (.slice ea n.exc.length ecap) a c t (.slice la ln lc)) := fun W hb => ⟨hb0.trans (hb.mono hb0.size), hB.below hb (by omega)⟩
  unfold TV at HGr ⊢
  rw [hgr] at HGr
  obtain ⟨hg4, hg7⟩ := great8_false hgr
  obtain ⟨hl1, hl2, hl3, hl4⟩ := great_false hg4
  have hl7 := great7_false hg7
  have hdl : decide ((12 : Int) < (l.length : Int)) = false := decide_eq_false (by omega)
  have hdl2 : decide (12 < l.length) = false := decide_eq_false hlll
  have hdm : decide ((12 : Int) < (m.length : Int)) = false := decide_eq_false (by omega)
  have hdm2 : decide (12 < m.length) = false := decide_eq_false hllm
  have HCK : Hid (∀ W, Below w.heap.size w W → _) := fun W hb => check8_any ra ca ea la rcap ccap ecap ln lc n a c t W p (hg.below hb) hcap (hR.below hb) (hC.below hb) (hE.below hb) (hT.below hb) hl7 hl1 hl2 hl3 hl4
  have HHO : Hid (chk8 n t = (0, 0) → ∀ W b off cap (ls : List Int) i, Below w.heap.size w W → Runes W (.slice (some ⟨b, off, none⟩) ls.length cap) ls → ls.length ≤ 1000 → i < ls.length → _) := fun h W b off cap ls i hb hr hl hi =>
    holds_any ra ca ea la rcap ccap ecap ln lc n a c t b off cap ls i W (hC.below hb) (by omega) (right8 h).1 (right8 h).2.1 (hT.below hb) (right8 h).2.2 hr hl hi
  have HV1 : Hid (∀ W, Below w.heap.size w W → RunesZ W (.slice ql l.length cl) l) := fun W hb => ⟨hvl.below hb, hzl⟩
  have HV2 : Hid (∀ W, Below w.heap.size w W → RunesZ W (.slice qm m.length cm) m) := fun W hb => ⟨hvm.below hb, hzm⟩
  have HVJ : Hid (∀ W, Below w.heap.size w W → ∀ j, j < l.length → ∃ b off, ql = some ⟨b, off, none⟩ ∧ W.cell? ⟨b, off + j, none⟩ = some (.int .i32 (l.getD j 0))) := fun W hb j hj => by
    obtain ⟨b, off, rfl, q⟩ := hvj j hj
    exact ⟨b, off, rfl, (hb.cell (p := ⟨b, off + j, none⟩) (lt_of_cell q)).trans q⟩
  have HSA : Hid (∀ i, i < l.length → (ruleM (l.getD i 0) = 2 ∨ ruleM (l.getD i 0) = 5) → holdsM n.cls (t 8) (l ++ m) i = holdsM n.cls (t 8) l i) := fun i hi h => behind_same n.cls (t 8) l m i hi h
  have mixed : Tryd.prog.follows .mixedOrders = true := by kernel_rfl
  obtain ⟨i0, hi, hz0, hz1, hz2⟩ := info_parts Tryd.infoRune
  have HLN : Hid (l.length ≤ 12 ∧ m.length ≤ 12) := ⟨by omega, by omega⟩
  unfold TV at HCK HHO
  have HGA : ∀ i, i < l.length → (l ++ m).getD i 0 = l.getD i 0 := fun i hi => getD_app hi
  have HGA' := Hid.mk' HGA
  generalize chk8 n t = x at HCK HHO
  clear HGA
  clear hgr hg hR hC hE hT hb0 hB hvl hvj hzl hvm hzm hcap hl1 hl2 hl3 hl4 hl7 hg4 hg7
  go_enter Tryd.func4, Tryd.ntmps4
  go_wp2_with fail
  refine HA.out.mono ?_
  rintro e w1 ⟨rfl, hb1⟩
  obtain ⟨hbw1, hB1⟩ := HB.out w1 hb1
  have xr := hB1.r
  have xk := hB1.k
  have xe := hB1.e
  have xl := hB1.l
  have x0 : w1.cell? ⟨w.heap.size, 3, none⟩ = some (.slice (a 0) (t 0).length (c 0)) := hB1.p 0 (by omega)
  have x1 : w1.cell? ⟨w.heap.size, 4, none⟩ = some (.slice (a 1) (t 1).length (c 1)) := hB1.p 1 (by omega)
  have x2 : w1.cell? ⟨w.heap.size, 5, none⟩ = some (.slice (a 2) (t 2).length (c 2)) := hB1.p 2 (by omega)
  have x3 : w1.cell? ⟨w.heap.size, 6, none⟩ = some (.slice (a 3) (t 3).length (c 3)) := hB1.p 3 (by omega)
  have x4 : w1.cell? ⟨w.heap.size, 7, none⟩ = some (.slice (a 4) (t 4).length (c 4)) := hB1.p 4 (by omega)
  have x5 : w1.cell? ⟨w.heap.size, 8, none⟩ = some (.slice (a 5) (t 5).length (c 5)) := hB1.p 5 (by omega)
  have x6 : w1.cell? ⟨w.heap.size, 9, none⟩ = some (.slice (a 6) (t 6).length (c 6)) := hB1.p 6 (by omega)
  have x7 : w1.cell? ⟨w.heap.size, 10, none⟩ = some (.slice (a 7) (t 7).length (c 7)) := hB1.p 7 (by omega)
  have x8 : w1.cell? ⟨w.heap.size, 11, none⟩ = some (.slice (a 8) (t 8).length (c 8)) := hB1.p 8 (by omega)
  have x9 : w1.cell? ⟨w.heap.size, 12, none⟩ = some (.slice (a 9) (t 9).length (c 9)) := hB1.p 9 (by omega)
  have x10 : w1.cell? ⟨w.heap.size, 13, none⟩ = some (.slice (a 10) (t 10).length (c 10)) := hB1.p 10 (by omega)
  clear hB1
  go_wp2_with fail
  refine (HGr.out w1 hbw1).mono ?_
  rintro e w2 ⟨rfl, hb2⟩
  have hb02 := hb1.trans (hb2.mono hb1.size)
  obtain ⟨hbw2, hB2⟩ := HB.out w2 hb02
  clear xr xk xe xl x0 x1 x2 x3 x4 x5 x6 x7 x8 x9 x10 hb1 hb2 hbw1
  have yr := hB2.r
  have yk := hB2.k
  have ye := hB2.e
  have yl := hB2.l
  have y0 : w2.cell? ⟨w.heap.size, 3, none⟩ = some (.slice (a 0) (t 0).length (c 0)) := hB2.p 0 (by omega)
  have y1 : w2.cell? ⟨w.heap.size, 4, none⟩ = some (.slice (a 1) (t 1).length (c 1)) := hB2.p 1 (by omega)
  have y2 : w2.cell? ⟨w.heap.size, 5, none⟩ = some (.slice (a 2) (t 2).length (c 2)) := hB2.p 2 (by omega)
  have y3 : w2.cell? ⟨w.heap.size, 6, none⟩ = some (.slice (a 3) (t 3).length (c 3)) := hB2.p 3 (by omega)
  have y4 : w2.cell? ⟨w.heap.size, 7, none⟩ = some (.slice (a 4) (t 4).length (c 4)) := hB2.p 4 (by omega)
  have y5 : w2.cell? ⟨w.heap.size, 8, none⟩ = some (.slice (a 5) (t 5).length (c 5)) := hB2.p 5 (by omega)
  have y6 : w2.cell? ⟨w.heap.size, 9, none⟩ = some (.slice (a 6) (t 6).length (c 6)) := hB2.p 6 (by omega)
  have y7 : w2.cell? ⟨w.heap.size, 10, none⟩ = some (.slice (a 7) (t 7).length (c 7)) := hB2.p 7 (by omega)
  have y8 : w2.cell? ⟨w.heap.size, 11, none⟩ = some (.slice (a 8) (t 8).length (c 8)) := hB2.p 8 (by omega)
  have y9 : w2.cell? ⟨w.heap.size, 12, none⟩ = some (.slice (a 9) (t 9).length (c 9)) := hB2.p 9 (by omega)
  have y10 : w2.cell? ⟨w.heap.size, 13, none⟩ = some (.slice (a 10) (t 10).length (c 10)) := hB2.p 10 (by omega)
  clear hB2
  go_wp2_with fail
  refine (HCK.out w2 hbw2).mono ?_
  rintro e w4 ⟨fv, rfl, hsay, hb4⟩
  have hb04 := hb02.trans (hb4.mono hb02.size)
  clear yr yk ye yl y0 y1 y2 y3 y4 y5 y6 y7 y8 y9 y10 hb4 hb02
  have hbw4 := (HB.out w4 hb04).1
  rcases hsay with ⟨hz, rfl⟩ | ⟨hnz, hf⟩
  rotate_left
  · obtain ⟨fb, -, rfl, -, -⟩ := hf
    clear hnz
    go_wp2
    go_ret
    exact ⟨rfl, hbw4⟩
  have HH := Hid.mk' (HHO.out hz)
  clear HHO HCK HGr hz HA hbw2
  have T5 := Hid.mk' hbw4
  have U5 := Hid.mk' hb04
  clear hbw4 hb04
  have O6 := Hid.mk' (own_new w4 w4.heap.size [] 21 (Nat.le_refl _) (by simp))
  have B6 : Hid (Below w4.heap.size w4 (w4.alloc (.cells #[] 21))) := (Below.refl _ _).alloc (Nat.le_refl _) _
  have V6 : Hid (RunesZ (w4.alloc (.cells #[] 21)) (.slice ql l.length cl) l) := HV1.out _ (T5.out.trans (B6.out.mono T5.out.size))
  obtain ⟨lm, hlm⟩ : ∃ x, x = l ++ m := ⟨_, rfl⟩
  have Hlm := Hid.mk' hlm
  clear hlm
  go_wp2_with (first
    | (at_builtin; (refine wpList_append_runes rfl _ _ rfl w4.heap.size _ [] rfl O6.out _ l rfl V6.out (by have := HLN.out; simp; omega) (by first | (simp; done) | (simp; omega) | exact B6.out.size) ?_); intro v7 w7 ho7 hg7; have O7 : Hid (w7.ownsRow w4.heap.size 21 1 v7 l.length (l.map (Value.int .i32))) := (by show World.ownsRow _ _ _ _ _ _ _; simpa using ho7); have B7 : Hid (Below w4.heap.size w4 w7) := B6.out.grown hg7 (by first | (simp; done) | (simp; omega) | exact B6.out.size) (fun j hj => (O6.out.lt j hj).1); obtain ⟨a7, c7, rfl⟩ := own_slice O7.out; clear ho7 hg7; have V7 : Hid (RunesZ w7 (.slice qm m.length cm) m) := HV2.out _ (T5.out.trans (B7.out.mono T5.out.size)))
    | (at_builtin; (refine wpList_append_runes rfl _ _ rfl w4.heap.size _ l rfl O7.out _ m rfl V7.out (by have := HLN.out; simp; omega) (by first | (simp; done) | (simp; omega) | exact B7.out.size) ?_); intro v8 w8 ho8 hg8; have O8 : Hid (w8.ownsRow w4.heap.size 21 1 v8 lm.length (lm.map (Value.int .i32))) := (by show World.ownsRow _ _ _ _ _ _ _; rw [Hlm.out]; simpa using ho8); have B8 : Hid (Below w4.heap.size w4 w8) := B7.out.grown hg8 (by first | (simp; done) | (simp; omega) | exact B7.out.size) (fun j hj => (O7.out.lt j hj).1); obtain ⟨a8, c8, rfl⟩ := own_slice O8.out; clear ho8 hg8))
  have U8 : Hid (Below W0.heap.size W0 w8) := U5.out.trans (B8.out.mono U5.out.size)
  have R8 := Hid.mk' (Runes.own O8.out)
  have HLL : Hid (l.length ≤ lm.length ∧ lm.length ≤ 24) := by rw [Hlm.out]; have := HLN.out; show _ ∧ _; simp; omega
  have HTR : Hid (∀ W W', Below w8.heap.size w8 W → Below W.heap.size W W' → Below w8.heap.size w8 W') := fun W W' h h' => h.trans (h'.mono h.size)
  have H8 : Hid (∀ W, Below w8.heap.size w8 W → Below w.heap.size w W ∧ TB W w.heap.size (.slice ra n.rows.length rcap) (.slice ca n.cls.length ccap) (.slice ea n.exc.length ecap) a c t (.slice la ln lc)) := fun W hb => HB.out W (U8.out.trans (hb.mono U8.out.size))
  have HJ : Hid (∀ W, Below w8.heap.size w8 W → (W.cell? ⟨w.heap.size, 0, none⟩ = some (.slice ra n.rows.length rcap) ∧ W.cell? ⟨w.heap.size, 1, none⟩ = some (.slice ca n.cls.length ccap) ∧ W.cell? ⟨w.heap.size, 2, none⟩ = some (.slice ea n.exc.length ecap) ∧ W.cell? ⟨w.heap.size, 3, none⟩ = some (.slice (a 0) (t 0).length (c 0)) ∧ W.cell? ⟨w.heap.size, 4, none⟩ = some (.slice (a 1) (t 1).length (c 1)) ∧ W.cell? ⟨w.heap.size, 5, none⟩ = some (.slice (a 2) (t 2).length (c 2)) ∧ W.cell? ⟨w.heap.size, 6, none⟩ = some (.slice (a 3) (t 3).length (c 3)) ∧ W.cell? ⟨w.heap.size, 7, none⟩ = some (.slice (a 4) (t 4).length (c 4)) ∧ W.cell? ⟨w.heap.size, 8, none⟩ = some (.slice (a 5) (t 5).length (c 5)) ∧ W.cell? ⟨w.heap.size, 9, none⟩ = some (.slice (a 6) (t 6).length (c 6)) ∧ W.cell? ⟨w.heap.size, 10, none⟩ = some (.slice (a 7) (t 7).length (c 7)) ∧ W.cell? ⟨w.heap.size, 11, none⟩ = some (.slice (a 8) (t 8).length (c 8)) ∧ W.cell? ⟨w.heap.size, 12, none⟩ = some (.slice (a 9) (t 9).length (c 9)) ∧ W.cell? ⟨w.heap.size, 13, none⟩ = some (.slice (a 10) (t 10).length (c 10)) ∧ W.cell? ⟨w.heap.size, 14, none⟩ = some (.slice la ln lc))) := fun W hb => by
    have q := (H8.out W hb).2
    exact ⟨q.r, q.k, q.e, q.p 0 (by omega), q.p 1 (by omega), q.p 2 (by omega), q.p 3 (by omega), q.p 4 (by omega), q.p 5 (by omega), q.p 6 (by omega), q.p 7 (by omega), q.p 8 (by omega), q.p 9 (by omega), q.p 10 (by omega), q.l⟩
  have HCL : Hid (∀ k, k < l.length → (ruleM (l.getD k 0) = 2 ∨ ruleM (l.getD k 0) = 5) → ∀ W v, Below w8.heap.size w8 W → (v = .slice ql l.length cl ∨ v = .slice a8 lm.length c8) → (Calls Tryd.prog 9 #[.agg #[.slice ra n.rows.length rcap, .slice ca n.cls.length ccap, .slice ea n.exc.length ecap, .slice (a 0) (t 0).length (c 0), .slice (a 1) (t 1).length (c 1), .slice (a 2) (t 2).length (c 2), .slice (a 3) (t 3).length (c 3), .slice (a 4) (t 4).length (c 4), .slice (a 5) (t 5).length (c 5), .slice (a 6) (t 6).length (c 6), .slice (a 7) (t 7).length (c 7), .slice (a 8) (t 8).length (c 8), .slice (a 9) (t 9).length (c 9), .slice (a 10) (t 10).length (c 10), .slice la ln lc], v, .int .i64 k] W fun e w' => e = .returned (.bool (holdsM n.cls (t 8) l k)) ∧ Below W.heap.size W w')) := fun k hk hr W v hb hv => by
    have hbW := (H8.out W hb).1
    have hln := HLN.out
    have hne : ruleM (l.getD k 0) ≠ 1 := by omega
    rcases hv with rfl | rfl
    · obtain ⟨hrl, -⟩ := HV1.out W hbW
      obtain ⟨b, off, rfl, -⟩ := HVJ.out W hbW k hk
      refine (HH.out W b off cl l k hbW hrl (by omega) hk).mono ?_
      rintro e w' ⟨q, rfl, hq, hb'⟩
      exact ⟨ret_bool (hq hne), hb'⟩
    · have hrl := R8.out.below hb
      have hk2 : k < lm.length := by have := HLL.out; omega
      have ha8 : ∃ b off, a8 = some ⟨b, off, none⟩ := by
        obtain ⟨av, cap, e1, h⟩ := hrl
        obtain ⟨b, off, e2, -⟩ := h k hk2
        exact ⟨b, off, by injection e1 with x y z; rw [x, e2]⟩
      obtain ⟨b, off, rfl⟩ := ha8
      refine (HH.out W b off c8 lm k hbW hrl (by have := HLL.out; omega) hk2).mono ?_
      rintro e w' ⟨q, rfl, hq, hb'⟩
      rw [Hlm.out, HGA'.out k hk] at hq
      exact ⟨ret_bool ((hq hne).trans (HSA.out k hk hr)), hb'⟩
  clear HB HH HV1 HV2 U5 T5 U8 O6 B6 V6 O7 B7 V7 O8 B8 R8 HSA HGA' HLL
  go_loopw [8] (fun y wr => ∃ k : Nat, y = .int .i64 k ∧ k ≤ l.length ∧ Below w8.heap.size w8 wr) (fun y _ => l.length - (intOf y).toNat)
  case atStart => exact ⟨0, rfl, Nat.zero_le _, Below.refl _ _⟩
  case round =>
    obtain ⟨k, rfl, hkl, hb⟩ := hrel
    have hbw := (H8.out wr hb).1
    by_cases hlt : k < l.length
    · have HCLk := Hid.mk' (HCL.out k hlt)
      obtain ⟨b, off, rfl, ck⟩ := HVJ.out wr hbw k hlt
      have HR := Hid.mk' (rule_any (l.getD k 0) wr)
      have hle := ruleM_le (l.getD k 0)
      have hklz : (k : Int) < (l.length : Int) := by omega
      have hbd : Below w8.heap.size w8 wr.drew := hb.drew
      have hz := HJ.out _ hbd
      generalize l.getD k 0 = x at HCLk HR hle ck
      generalize holdsM n.cls (t 8) l k = q at *
      generalize hy : ruleM x = y at HR HCLk hle
      clear hy
      by_cases h2 : y = 2
      · subst h2
        have HRk : Hid (Calls Tryd.prog 8 #[.int .i32 x] wr fun e w' => e = .returned (.int .i64 2) ∧ wr = w') := HR.out
        clear HR hle
        go_wp2_with fail
        refine HRk.out.mono ?_
        rintro e w5 ⟨rfl, rfl⟩
        have HC2 := Hid.mk' (HCLk.out (by first | exact .inl trivial | exact .inl rfl | simp))
        have hqq : (q != q) = false := by cases q <;> rfl
        clear HCLk HRk hz
        go_wp2
        refine wp_region_held (S := (fun w' => Below w8.heap.size w8 w')) (by kernel_rfl) ?_
        refine wpAnyH_take (i := 0) (oi := ⟨_, _, _, _, _, _⟩) (v := ?_) rfl (by kernel_rfl) (by kernel_rfl) (by kernel_rfl) (fun _ _ _ h => h) (Or.inl ⟨by rfl, ?_⟩) hbd ?_
        rotate_left
        · (intro w hSw; (try dsimp only at hSw); go_simp; try with_reducible rfl)
        try simp only [Act.put, List.setIfInBounds_toArray, List.set_cons_zero, List.set_cons_succ]
        refine wpAnyH_take (i := 1) (oi := ⟨_, _, _, _, _, _⟩) (v := ?_) rfl (by kernel_rfl) (by kernel_rfl) (by kernel_rfl) (fun _ _ _ h => h) (Or.inl ⟨by rfl, ?_⟩) hbd ?_
        rotate_left
        · (intro w hSw; (try dsimp only at hSw); go_simp; try with_reducible rfl)
        try simp only [Act.put, List.setIfInBounds_toArray, List.set_cons_zero, List.set_cons_succ]
        refine wpAnyH_take (i := 2) (oi := ⟨_, _, _, _, _, _⟩) (v := ?_) rfl (by kernel_rfl) (by kernel_rfl) (by kernel_rfl) (fun _ _ _ h => h) (Or.inl ⟨by rfl, ?_⟩) hbd ?_
        rotate_left
        · (intro w hSw; (try dsimp only at hSw); go_simp; try with_reducible rfl)
        try simp only [Act.put, List.setIfInBounds_toArray, List.set_cons_zero, List.set_cons_succ]
        refine wpAnyH_take (i := 3) (oi := ⟨_, _, _, _, _, _⟩) (v := undef) rfl (by kernel_rfl) (by kernel_rfl) (by kernel_rfl) (fun _ _ _ h => h) (Or.inr ⟨by rfl, rfl⟩) hbd ?_
        try simp only [Act.put, List.setIfInBounds_toArray, List.set_cons_zero, List.set_cons_succ]
        refine wpAnyH_take (i := 4) (oi := ⟨_, _, _, _, _, _⟩) (v := undef) rfl (by kernel_rfl) (by kernel_rfl) (by kernel_rfl) (fun _ _ _ h => h) (Or.inr ⟨by rfl, rfl⟩) hbd ?_
        try simp only [Act.put, List.setIfInBounds_toArray, List.set_cons_zero, List.set_cons_succ]
        refine wpAnyH_take (i := 5) (oi := ⟨_, _, _, _, _, _⟩) (v := ?_) rfl (by kernel_rfl) (by kernel_rfl) (by kernel_rfl) (fun _ _ _ h => h) (Or.inl ⟨by rfl, ?_⟩) hbd ?_
        rotate_left
        · (intro w hSw; (try dsimp only at hSw); go_simp; try with_reducible rfl)
        try simp only [Act.put, List.setIfInBounds_toArray, List.set_cons_zero, List.set_cons_succ]
        refine wpAnyH_take (i := 6) (oi := ⟨_, _, _, _, _, _⟩) (v := ?_) rfl (by kernel_rfl) (by kernel_rfl) (by kernel_rfl) (fun _ _ _ h => h) (Or.inl ⟨by rfl, ?_⟩) hbd ?_
        rotate_left
        · (intro w hSw; (try dsimp only at hSw); go_simp; try with_reducible rfl)
        try simp only [Act.put, List.setIfInBounds_toArray, List.set_cons_zero, List.set_cons_succ]
        refine wpAnyH_take (i := 7) (oi := ⟨_, _, _, _, _, _⟩) (v := ?_) rfl (by kernel_rfl) (by kernel_rfl) (by kernel_rfl) (fun _ _ _ h => h) (Or.inl ⟨by rfl, ?_⟩) hbd ?_
        rotate_left
        · (intro w hSw; (try dsimp only at hSw); obtain ⟨z0, z1, z2, z3, z4, z5, z6, z7, z8, z9, z10, z11, z12, z13, z14⟩ := HJ.out _ hSw; go_simp; try with_reducible rfl)
        try simp only [Act.put, List.setIfInBounds_toArray, List.set_cons_zero, List.set_cons_succ]
        refine wpAnyH_take (i := 8) (oi := ⟨_, _, _, _, _, _⟩) (v := ?_) rfl (by kernel_rfl) (by kernel_rfl) (by kernel_rfl) (fun _ _ _ h => h) (Or.inl ⟨by rfl, ?_⟩) hbd ?_
        rotate_left
        · (intro w hSw; (try dsimp only at hSw); go_simp; try with_reducible rfl)
        try simp only [Act.put, List.setIfInBounds_toArray, List.set_cons_zero, List.set_cons_succ]
        refine wpAnyH_take (i := 9) (oi := ⟨_, _, _, _, _, _⟩) (v := ?_) rfl (by kernel_rfl) (by kernel_rfl) (by kernel_rfl) (fun _ _ _ h => h) (Or.inl ⟨by rfl, ?_⟩) hbd ?_
        rotate_left
        · (intro w hSw; (try dsimp only at hSw); go_simp; try with_reducible rfl)
        try simp only [Act.put, List.setIfInBounds_toArray, List.set_cons_zero, List.set_cons_succ]
        refine wpAnyH_take (i := 11) (oi := ⟨_, _, _, _, _, _⟩) (v := ?_) rfl (by kernel_rfl) (by kernel_rfl) (by kernel_rfl) (fun _ _ _ h => h) (Or.inl ⟨by rfl, ?_⟩) hbd ?_
        rotate_left
        · (intro w hSw; (try dsimp only at hSw); obtain ⟨z0, z1, z2, z3, z4, z5, z6, z7, z8, z9, z10, z11, z12, z13, z14⟩ := HJ.out _ hSw; go_simp; try with_reducible rfl)
        try simp only [Act.put, List.setIfInBounds_toArray, List.set_cons_zero, List.set_cons_succ]
        refine wpAnyH_take (i := 12) (oi := ⟨_, _, _, _, _, _⟩) (v := ?_) rfl (by kernel_rfl) (by kernel_rfl) (by kernel_rfl) (fun _ _ _ h => h) (Or.inl ⟨by rfl, ?_⟩) hbd ?_
        rotate_left
        · (intro w hSw; (try dsimp only at hSw); go_simp; try with_reducible rfl)
        try simp only [Act.put, List.setIfInBounds_toArray, List.set_cons_zero, List.set_cons_succ]
        refine wpAnyH_take (i := 13) (oi := ⟨_, _, _, _, _, _⟩) (v := ?_) rfl (by kernel_rfl) (by kernel_rfl) (by kernel_rfl) (fun _ _ _ h => h) (Or.inl ⟨by rfl, ?_⟩) hbd ?_
        rotate_left
        · (intro w hSw; (try dsimp only at hSw); go_simp; try with_reducible rfl)
        try simp only [Act.put, List.setIfInBounds_toArray, List.set_cons_zero, List.set_cons_succ]
        refine wpAnyH_ready (rs := [10]) (by kernel_rfl) (by simp) ?_
        refine AllReadyH.cons (o := ⟨_, _, _, _, _, _⟩) rfl (fun K hK => ?_) AllReadyH.nil
        go_simp
        go_at_call 9
        refine (HC2.out _ _ hbd (.inl rfl)).mono ?_
        rintro e wA10 ⟨rfl, hbA10⟩
        refine hK.out _ _ (HTR.out _ _ hbd hbA10) (fun hH1 => ?_)
        clear hK K
        try simp only [Act.put, List.setIfInBounds_toArray, List.set_cons_zero, List.set_cons_succ]
        refine wpAnyH_ready (rs := [14]) (by kernel_rfl) (by simp) ?_
        refine AllReadyH.cons (o := ⟨_, _, _, _, _, _⟩) rfl (fun K hK => ?_) AllReadyH.nil
        go_simp
        go_at_call 9
        refine (HC2.out _ _ hH1 (.inr rfl)).mono ?_
        rintro e wA14 ⟨rfl, hbA14⟩
        refine hK.out _ _ (HTR.out _ _ hH1 hbA14) (fun hH2 => ?_)
        clear hK K
        try simp only [Act.put, List.setIfInBounds_toArray, List.set_cons_zero, List.set_cons_succ]
        refine wpAnyH_take (i := 15) (oi := ⟨_, _, _, _, _, _⟩) (v := ?_) rfl (by kernel_rfl) (by kernel_rfl) (by kernel_rfl) (fun _ _ _ h => h) (Or.inl ⟨by rfl, ?_⟩) hH2 ?_
        rotate_left
        · (intro w hSw; (try dsimp only at hSw); go_simp; try with_reducible rfl)
        try simp only [Act.put, List.setIfInBounds_toArray, List.set_cons_zero, List.set_cons_succ]
        refine wpAnyH_take (i := 16) (oi := ⟨_, _, _, _, _, _⟩) (v := ?_) rfl (by kernel_rfl) (by kernel_rfl) (by kernel_rfl) (fun _ _ _ h => h) (Or.inl ⟨by rfl, ?_⟩) hH2 ?_
        rotate_left
        · (intro w hSw; (try dsimp only at hSw); go_simp; try with_reducible rfl)
        try simp only [Act.put, List.setIfInBounds_toArray, List.set_cons_zero, List.set_cons_succ]
        refine wpAnyH_done (by kernel_rfl) ?_ _
        go_wp2
        go_roundw
        case rel => exact ⟨k + 1, by go_num, by omega, hH2⟩
        case measure => simp [intOf]; omega
      by_cases h5 : y = 5
      · subst h5
        have HRk : Hid (Calls Tryd.prog 8 #[.int .i32 x] wr fun e w' => e = .returned (.int .i64 5) ∧ wr = w') := HR.out
        clear HR hle h2
        go_wp2_with fail
        refine HRk.out.mono ?_
        rintro e w5 ⟨rfl, rfl⟩
        have HC2 := Hid.mk' (HCLk.out (by first | exact .inr trivial | exact .inr rfl | simp))
        have hqq : (q != q) = false := by cases q <;> rfl
        clear HCLk HRk hz
        go_wp2
        refine wp_region_held (S := (fun w' => Below w8.heap.size w8 w')) (by kernel_rfl) ?_
        refine wpAnyH_take (i := 0) (oi := ⟨_, _, _, _, _, _⟩) (v := ?_) rfl (by kernel_rfl) (by kernel_rfl) (by kernel_rfl) (fun _ _ _ h => h) (Or.inl ⟨by rfl, ?_⟩) hbd ?_
        rotate_left
        · (intro w hSw; (try dsimp only at hSw); go_simp; try with_reducible rfl)
        try simp only [Act.put, List.setIfInBounds_toArray, List.set_cons_zero, List.set_cons_succ]
        refine wpAnyH_take (i := 1) (oi := ⟨_, _, _, _, _, _⟩) (v := ?_) rfl (by kernel_rfl) (by kernel_rfl) (by kernel_rfl) (fun _ _ _ h => h) (Or.inl ⟨by rfl, ?_⟩) hbd ?_
        rotate_left
        · (intro w hSw; (try dsimp only at hSw); go_simp; try with_reducible rfl)
        try simp only [Act.put, List.setIfInBounds_toArray, List.set_cons_zero, List.set_cons_succ]
        refine wpAnyH_take (i := 2) (oi := ⟨_, _, _, _, _, _⟩) (v := ?_) rfl (by kernel_rfl) (by kernel_rfl) (by kernel_rfl) (fun _ _ _ h => h) (Or.inl ⟨by rfl, ?_⟩) hbd ?_
        rotate_left
        · (intro w hSw; (try dsimp only at hSw); go_simp; try with_reducible rfl)
        try simp only [Act.put, List.setIfInBounds_toArray, List.set_cons_zero, List.set_cons_succ]
        refine wpAnyH_take (i := 3) (oi := ⟨_, _, _, _, _, _⟩) (v := ?_) rfl (by kernel_rfl) (by kernel_rfl) (by kernel_rfl) (fun _ _ _ h => h) (Or.inl ⟨by rfl, ?_⟩) hbd ?_
        rotate_left
        · (intro w hSw; (try dsimp only at hSw); go_simp; try with_reducible rfl)
        try simp only [Act.put, List.setIfInBounds_toArray, List.set_cons_zero, List.set_cons_succ]
        refine wpAnyH_take (i := 4) (oi := ⟨_, _, _, _, _, _⟩) (v := ?_) rfl (by kernel_rfl) (by kernel_rfl) (by kernel_rfl) (fun _ _ _ h => h) (Or.inl ⟨by rfl, ?_⟩) hbd ?_
        rotate_left
        · (intro w hSw; (try dsimp only at hSw); go_simp; try with_reducible rfl)
        try simp only [Act.put, List.setIfInBounds_toArray, List.set_cons_zero, List.set_cons_succ]
        refine wpAnyH_take (i := 5) (oi := ⟨_, _, _, _, _, _⟩) (v := ?_) rfl (by kernel_rfl) (by kernel_rfl) (by kernel_rfl) (fun _ _ _ h => h) (Or.inl ⟨by rfl, ?_⟩) hbd ?_
        rotate_left
        · (intro w hSw; (try dsimp only at hSw); go_simp; try with_reducible rfl)
        try simp only [Act.put, List.setIfInBounds_toArray, List.set_cons_zero, List.set_cons_succ]
        refine wpAnyH_take (i := 6) (oi := ⟨_, _, _, _, _, _⟩) (v := ?_) rfl (by kernel_rfl) (by kernel_rfl) (by kernel_rfl) (fun _ _ _ h => h) (Or.inl ⟨by rfl, ?_⟩) hbd ?_
        rotate_left
        · (intro w hSw; (try dsimp only at hSw); go_simp; try with_reducible rfl)
        try simp only [Act.put, List.setIfInBounds_toArray, List.set_cons_zero, List.set_cons_succ]
        refine wpAnyH_take (i := 7) (oi := ⟨_, _, _, _, _, _⟩) (v := ?_) rfl (by kernel_rfl) (by kernel_rfl) (by kernel_rfl) (fun _ _ _ h => h) (Or.inl ⟨by rfl, ?_⟩) hbd ?_
        rotate_left
        · (intro w hSw; (try dsimp only at hSw); obtain ⟨z0, z1, z2, z3, z4, z5, z6, z7, z8, z9, z10, z11, z12, z13, z14⟩ := HJ.out _ hSw; go_simp; try with_reducible rfl)
        try simp only [Act.put, List.setIfInBounds_toArray, List.set_cons_zero, List.set_cons_succ]
        refine wpAnyH_take (i := 8) (oi := ⟨_, _, _, _, _, _⟩) (v := ?_) rfl (by kernel_rfl) (by kernel_rfl) (by kernel_rfl) (fun _ _ _ h => h) (Or.inl ⟨by rfl, ?_⟩) hbd ?_
        rotate_left
        · (intro w hSw; (try dsimp only at hSw); go_simp; try with_reducible rfl)
        try simp only [Act.put, List.setIfInBounds_toArray, List.set_cons_zero, List.set_cons_succ]
        refine wpAnyH_take (i := 9) (oi := ⟨_, _, _, _, _, _⟩) (v := ?_) rfl (by kernel_rfl) (by kernel_rfl) (by kernel_rfl) (fun _ _ _ h => h) (Or.inl ⟨by rfl, ?_⟩) hbd ?_
        rotate_left
        · (intro w hSw; (try dsimp only at hSw); go_simp; try with_reducible rfl)
        try simp only [Act.put, List.setIfInBounds_toArray, List.set_cons_zero, List.set_cons_succ]
        refine wpAnyH_take (i := 11) (oi := ⟨_, _, _, _, _, _⟩) (v := ?_) rfl (by kernel_rfl) (by kernel_rfl) (by kernel_rfl) (fun _ _ _ h => h) (Or.inl ⟨by rfl, ?_⟩) hbd ?_
        rotate_left
        · (intro w hSw; (try dsimp only at hSw); obtain ⟨z0, z1, z2, z3, z4, z5, z6, z7, z8, z9, z10, z11, z12, z13, z14⟩ := HJ.out _ hSw; go_simp; try with_reducible rfl)
        try simp only [Act.put, List.setIfInBounds_toArray, List.set_cons_zero, List.set_cons_succ]
        refine wpAnyH_take (i := 12) (oi := ⟨_, _, _, _, _, _⟩) (v := ?_) rfl (by kernel_rfl) (by kernel_rfl) (by kernel_rfl) (fun _ _ _ h => h) (Or.inl ⟨by rfl, ?_⟩) hbd ?_
        rotate_left
        · (intro w hSw; (try dsimp only at hSw); go_simp; try with_reducible rfl)
        try simp only [Act.put, List.setIfInBounds_toArray, List.set_cons_zero, List.set_cons_succ]
        refine wpAnyH_take (i := 13) (oi := ⟨_, _, _, _, _, _⟩) (v := ?_) rfl (by kernel_rfl) (by kernel_rfl) (by kernel_rfl) (fun _ _ _ h => h) (Or.inl ⟨by rfl, ?_⟩) hbd ?_
        rotate_left
        · (intro w hSw; (try dsimp only at hSw); go_simp; try with_reducible rfl)
        try simp only [Act.put, List.setIfInBounds_toArray, List.set_cons_zero, List.set_cons_succ]
        refine wpAnyH_ready (rs := [10]) (by kernel_rfl) (by simp) ?_
        refine AllReadyH.cons (o := ⟨_, _, _, _, _, _⟩) rfl (fun K hK => ?_) AllReadyH.nil
        go_simp
        go_at_call 9
        refine (HC2.out _ _ hbd (.inl rfl)).mono ?_
        rintro e wA10 ⟨rfl, hbA10⟩
        refine hK.out _ _ (HTR.out _ _ hbd hbA10) (fun hH1 => ?_)
        clear hK K
        try simp only [Act.put, List.setIfInBounds_toArray, List.set_cons_zero, List.set_cons_succ]
        refine wpAnyH_ready (rs := [14]) (by kernel_rfl) (by simp) ?_
        refine AllReadyH.cons (o := ⟨_, _, _, _, _, _⟩) rfl (fun K hK => ?_) AllReadyH.nil
        go_simp
        go_at_call 9
        refine (HC2.out _ _ hH1 (.inr rfl)).mono ?_
        rintro e wA14 ⟨rfl, hbA14⟩
        refine hK.out _ _ (HTR.out _ _ hH1 hbA14) (fun hH2 => ?_)
        clear hK K
        try simp only [Act.put, List.setIfInBounds_toArray, List.set_cons_zero, List.set_cons_succ]
        refine wpAnyH_take (i := 15) (oi := ⟨_, _, _, _, _, _⟩) (v := ?_) rfl (by kernel_rfl) (by kernel_rfl) (by kernel_rfl) (fun _ _ _ h => h) (Or.inl ⟨by rfl, ?_⟩) hH2 ?_
        rotate_left
        · (intro w hSw; (try dsimp only at hSw); go_simp; try with_reducible rfl)
        try simp only [Act.put, List.setIfInBounds_toArray, List.set_cons_zero, List.set_cons_succ]
        refine wpAnyH_take (i := 16) (oi := ⟨_, _, _, _, _, _⟩) (v := ?_) rfl (by kernel_rfl) (by kernel_rfl) (by kernel_rfl) (fun _ _ _ h => h) (Or.inl ⟨by rfl, ?_⟩) hH2 ?_
        rotate_left
        · (intro w hSw; (try dsimp only at hSw); go_simp; try with_reducible rfl)
        try simp only [Act.put, List.setIfInBounds_toArray, List.set_cons_zero, List.set_cons_succ]
        refine wpAnyH_done (by kernel_rfl) ?_ _
        go_wp2
        go_roundw
        case rel => exact ⟨k + 1, by go_num, by omega, hH2⟩
        case measure => simp [intOf]; omega
      have hy2 : ((y : Int) == 2) = false := by simp; omega
      have hy5 : ((y : Int) == 5) = false := by simp; omega
      clear HCLk hz h2 h5 hle
      go_wp2_with fail
      refine HR.out.mono ?_
      rintro e w5 ⟨rfl, rfl⟩
      go_wp2
      go_region
      go_wp2
      go_roundw
      case rel => exact ⟨k + 1, by go_num, by omega, hbd⟩
      case measure => simp [intOf]; omega
    · obtain rfl : k = l.length := by omega
      go_wp2
      go_ret
      exact ⟨rfl, hbw⟩
end Go.Proofs.YtlnehhfljjeifaaDoor

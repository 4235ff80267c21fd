/-
  What is proved here: that CompPairs answers true at every norm and two runes.
-/
import Derived.Test.YtdokdmfpoajphaaDoorKR
import Derived.Test.YtdokdmfpoajphaaDoorKE
namespace Go.Proofs.YtdokdmfpoajphaaDoor
open Go.RowKit

set_option maxRecDepth 20000 in
set_option maxHeartbeats 16000000 in
theorem pairs_any (w : World) (_ : Unit) (hg : Hg w) (a : Option Addr) (cap : Nat) (vc ve : Value) (t : Nm) (_hcap : t.rows.length ≤ cap) (hR : Rows4 w (.slice a t.rows.length cap) t.rows) (hC : Tab w vc t.cls) (hE : Runes w ve t.exc) (r : Int) (_wr : (Lit.int .i32 r).wf = true) (s : Int) (_ws : (Lit.int .i32 s).wf = true) :
    Calls Tryd.prog 3 #[.agg #[.slice a t.rows.length cap, vc, ve], .int .i32 r, .int .i32 s] w fun e w' => e = .returned (.bool true) ∧ Below w.heap.size w w' := by
  obtain ⟨W0, hW0, hsz, hb0, e0, e1, e2⟩ := norm_box w (.slice a t.rows.length cap) vc ve
  have HA := Hid.mk' (awake5_any W0 (hg.below hb0))
  have HGr : Hid (∀ W, Below w.heap.size w W → _) := fun W hb => great_any (.slice a t.rows.length cap) vc ve t W (hR.below hb) (hC.below hb) (hE.below hb)
  obtain ⟨ca, ccap, rfl, -⟩ := id hC
  obtain ⟨ea, ecap, rfl, -⟩ := id hE
  have HEE : Hid (∀ W, Below W0.heap.size W0 W → (W.cell? ⟨w.heap.size, 0, none⟩ = some (.slice a t.rows.length cap) ∧ W.cell? ⟨w.heap.size, 1, none⟩ = some (.slice ca t.cls.length ccap) ∧ W.cell? ⟨w.heap.size, 2, none⟩ = some (.slice ea t.exc.length ecap)) ∧ Below w.heap.size w W) := fun W hb => ⟨⟨(hb.cell (lt_of_cell e0)).trans e0, (hb.cell (lt_of_cell e1)).trans e1, (hb.cell (lt_of_cell e2)).trans e2⟩, hb0.trans (hb.mono hb0.size)⟩
  cases hgr : greatM t
  rotate_left
  · rw [hgr] at HGr
    clear hgr hg hR hC hE
    go_enter Tryd.func3, Tryd.ntmps3
    go_wp2_with fail
    refine HA.out.mono ?_
    rintro e w1 ⟨rfl, hb1⟩
    obtain ⟨⟨x0, x1, x2⟩, hbw1⟩ := HEE.out w1 hb1
    go_wp2_with fail
    refine (HGr.out w1 hbw1).mono ?_
    rintro e w2 ⟨rfl, hb2⟩
    go_wp2
    go_ret
    exact ⟨rfl, hbw1.trans (hb2.mono hbw1.size)⟩
  obtain ⟨hl1, hl2, hl3, hl4⟩ := great_false hgr
  have HRi : Hid (∀ W, Below w.heap.size w W → _) := fun W hb => lawRight4_any (.slice a t.rows.length cap) (.slice ca t.cls.length ccap) (.slice ea t.exc.length ecap) t W (hR.below hb) (hC.below hb) (hE.below hb) (by omega) (by omega) (by omega) (fun i hi => by have := hl4 i hi; omega)
  rw [hgr] at HGr
  by_cases hx : (chk4 t).2 = 0
  rotate_left
  · rw [decide_eq_false hx] at HRi
    clear hgr hg hR hC hE hx hl4
    go_enter Tryd.func3, Tryd.ntmps3
    go_wp2_with fail
    refine HA.out.mono ?_
    rintro e w1 ⟨rfl, hb1⟩
    obtain ⟨⟨x0, x1, x2⟩, hbw1⟩ := HEE.out w1 hb1
    go_wp2_with fail
    refine (HGr.out w1 hbw1).mono ?_
    rintro e w2 ⟨rfl, hb2⟩
    have hb02 := hb1.trans (hb2.mono hb1.size)
    obtain ⟨⟨y0, y1, y2⟩, hbw2⟩ := HEE.out w2 hb02
    go_wp2_with fail
    refine (HRi.out w2 hbw2).mono ?_
    rintro e w3 ⟨rfl, hb3⟩
    go_wp2
    go_ret
    exact ⟨rfl, hbw2.trans (hb3.mono hbw2.size)⟩
  rw [decide_eq_true hx] at HRi
  have hri4 := right4 hx
  obtain ⟨k1, k2, krow, kcls, kclsC, kexc, kth⟩ := hri4
  obtain ⟨-, -, hap, hri⟩ := right_parts kcls
  have hxr := exc_rise kexc
  have HP1 : Hid (∀ W, Below w.heap.size w W → _) := fun W hb => pair_any (.slice a t.rows.length cap) (.slice ca t.cls.length ccap) (.slice ea t.exc.length ecap) t r s W (hR.below hb) (hC.below hb) (hE.below hb) (by omega) (by omega) (by omega) hri hap hxr
  have HP2 : Hid (∀ W, Below w.heap.size w W → _) := fun W hb => refPair_any (.slice a t.rows.length cap) (.slice ca t.cls.length ccap) (.slice ea t.exc.length ecap) t r s W (hR.below hb) (hC.below hb) (hE.below hb) (by omega) (by omega) (by omega)
  have HNN : Hid (∀ y, pairM t r s = some y → 0 ≤ y) := fun y h => pair_nonneg krow h
  clear hgr hg hR hC hE hx hl4 krow kcls kclsC kexc kth hap hri hxr
  generalize pairM t r s = res at *
  cases res with
  | none =>
    go_enter Tryd.func3, Tryd.ntmps3
    go_wp2_with fail
    refine HA.out.mono ?_
    rintro e w1 ⟨rfl, hb1⟩
    obtain ⟨⟨x0, x1, x2⟩, hbw1⟩ := HEE.out w1 hb1
    go_wp2_with fail
    refine (HGr.out w1 hbw1).mono ?_
    rintro e w2 ⟨rfl, hb2⟩
    have hb02 := hb1.trans (hb2.mono hb1.size)
    obtain ⟨⟨y0, y1, y2⟩, hbw2⟩ := HEE.out w2 hb02
    go_wp2_with fail
    refine (HRi.out w2 hbw2).mono ?_
    rintro e w3 ⟨rfl, hb3⟩
    have hb03 := hb02.trans (hb3.mono hb02.size)
    obtain ⟨⟨z0, z1, z2⟩, hbw3⟩ := HEE.out w3 hb03
    clear x0 x1 x2 y0 y1 y2 e0 e1 e2
    go_wp2_with fail
    refine (HP1.out w3 hbw3).mono ?_
    rintro e w4 ⟨rfl, hb4⟩
    have hb04 := hb03.trans (hb4.mono hb03.size)
    obtain ⟨⟨u0, u1, u2⟩, hbw4⟩ := HEE.out w4 hb04
    go_wp2_with fail
    refine (HP2.out w4 hbw4).mono ?_
    rintro e w5 ⟨rfl, hb5⟩
    go_wp2
    go_ret
    exact ⟨rfl, hbw4.trans (hb5.mono hbw4.size)⟩
  | some y =>
    have hy := HNN.out y rfl
    go_enter Tryd.func3, Tryd.ntmps3
    go_wp2_with fail
    refine HA.out.mono ?_
    rintro e w1 ⟨rfl, hb1⟩
    obtain ⟨⟨x0, x1, x2⟩, hbw1⟩ := HEE.out w1 hb1
    go_wp2_with fail
    refine (HGr.out w1 hbw1).mono ?_
    rintro e w2 ⟨rfl, hb2⟩
    have hb02 := hb1.trans (hb2.mono hb1.size)
    obtain ⟨⟨y0, y1, y2⟩, hbw2⟩ := HEE.out w2 hb02
    go_wp2_with fail
    refine (HRi.out w2 hbw2).mono ?_
    rintro e w3 ⟨rfl, hb3⟩
    have hb03 := hb02.trans (hb3.mono hb02.size)
    obtain ⟨⟨z0, z1, z2⟩, hbw3⟩ := HEE.out w3 hb03
    clear x0 x1 x2 y0 y1 y2 e0 e1 e2
    go_wp2_with fail
    refine (HP1.out w3 hbw3).mono ?_
    rintro e w4 ⟨rfl, hb4⟩
    have hb04 := hb03.trans (hb4.mono hb03.size)
    obtain ⟨⟨u0, u1, u2⟩, hbw4⟩ := HEE.out w4 hb04
    go_wp2_with fail
    refine (HP2.out w4 hbw4).mono ?_
    rintro e w5 ⟨rfl, hb5⟩
    go_wp2
    go_ret
    exact ⟨ret_bool (by simp), hbw4.trans (hb5.mono hbw4.size)⟩
end Go.Proofs.YtdokdmfpoajphaaDoor

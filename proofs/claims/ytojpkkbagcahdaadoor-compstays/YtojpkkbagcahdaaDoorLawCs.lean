/-
  What is proved here: that CompStays answers true at every norm and list of runes.
-/
import Derived.Test.YtojpkkbagcahdaaDoorKC
namespace Go.Proofs.YtojpkkbagcahdaaDoor
open Go.RowKit

set_option maxRecDepth 20000 in
set_option maxHeartbeats 16000000 in
theorem cstays_any (w : World) (p : Nat → Addr) (hg : Gl p w) (a : Option Addr) (cap : Nat) (vc ve : Value) (t : Nm) (hcap : t.rows.length ≤ cap) (hR : Rows4 w (.slice a t.rows.length cap) t.rows) (hC : Tab w vc t.cls) (hE : Runes w ve t.exc) (vl : Value) (l : List Int) (hvl : Runes w vl l) :
    Calls Tryd.prog 5 #[.agg #[.slice a t.rows.length cap, vc, ve], vl] w fun e w' => e = .returned (.bool true) ∧ Below w.heap.size w w' := by
  obtain ⟨W0, hW0, hsz, hb0, e0, e1, e2⟩ := norm_box w (.slice a t.rows.length cap) vc ve
  have HA := Hid.mk' (awake5_any W0 (hg.hg.below hb0))
  have HGr : Hid (∀ W, Below w.heap.size w W → _) := fun W hb => great_any (.slice a t.rows.length cap) vc ve t W (hR.below hb) (hC.below hb) (hE.below hb)
  obtain ⟨ca, ccap, rfl, -⟩ := id hC
  obtain ⟨ea, ecap, rfl, -⟩ := id hE
  have HEE : Hid (∀ W, Below W0.heap.size W0 W → (W.cell? ⟨w.heap.size, 0, none⟩ = some (.slice a t.rows.length cap) ∧ W.cell? ⟨w.heap.size, 1, none⟩ = some (.slice ca t.cls.length ccap) ∧ W.cell? ⟨w.heap.size, 2, none⟩ = some (.slice ea t.exc.length ecap)) ∧ Below w.heap.size w W) := fun W hb => ⟨⟨(hb.cell (lt_of_cell e0)).trans e0, (hb.cell (lt_of_cell e1)).trans e1, (hb.cell (lt_of_cell e2)).trans e2⟩, hb0.trans (hb.mono hb0.size)⟩
  obtain ⟨ql, cl, rfl, -⟩ := id hvl
  cases hgr : greatM t
  rotate_left
  · rw [hgr] at HGr
    clear hgr hg hR hC hE hvl
    go_enter Tryd.func5, Tryd.ntmps5
    go_wp2_with fail
    refine HA.out.mono ?_
    rintro e w1 ⟨rfl, hb1⟩
    obtain ⟨⟨x0, x1, x2⟩, hbw1⟩ := HEE.out w1 hb1
    go_wp2_with fail
    refine (HGr.out w1 hbw1).mono ?_
    rintro e w2 ⟨rfl, hb2⟩
    go_wp2
    go_ret
    exact ⟨rfl, hbw1.trans (hb2.mono hbw1.size)⟩
  obtain ⟨hl1, hl2, hl3, hl4⟩ := great_false hgr
  rw [hgr] at HGr
  by_cases hlll : 16 < l.length
  · have hdl : decide ((16 : Int) < (l.length : Int)) = true := decide_eq_true (by omega)
    clear hgr hg hR hC hE hl4 hvl
    go_enter Tryd.func5, Tryd.ntmps5
    go_wp2_with fail
    refine HA.out.mono ?_
    rintro e w1 ⟨rfl, hb1⟩
    obtain ⟨⟨x0, x1, x2⟩, hbw1⟩ := HEE.out w1 hb1
    go_wp2_with fail
    refine (HGr.out w1 hbw1).mono ?_
    rintro e w2 ⟨rfl, hb2⟩
    go_wp2
    go_ret
    exact ⟨rfl, hbw1.trans (hb2.mono hbw1.size)⟩
  have hdl : decide ((16 : Int) < (l.length : Int)) = false := decide_eq_false (by omega)
  by_cases hx : (chk4 t).2 = 0
  rotate_left
  · have HK : Hid (∀ W, Below w.heap.size w W → _) := fun W hb => checkErr_any a cap (.slice ca t.cls.length ccap) (.slice ea t.exc.length ecap) t hcap W p (hg.below hb) (hR.below hb) (hC.below hb) (hE.below hb) hl1 hl2 hl3 hl4 hx
    clear hgr hg hR hC hE hl4 hvl hx
    go_enter Tryd.func5, Tryd.ntmps5
    go_wp2_with fail
    refine HA.out.mono ?_
    rintro e w1 ⟨rfl, hb1⟩
    obtain ⟨⟨x0, x1, x2⟩, hbw1⟩ := HEE.out w1 hb1
    go_wp2_with fail
    refine (HGr.out w1 hbw1).mono ?_
    rintro e w2 ⟨rfl, hb2⟩
    have hb02 := hb1.trans (hb2.mono hb1.size)
    obtain ⟨⟨y0, y1, y2⟩, hbw2⟩ := HEE.out w2 hb02
    clear x0 x1 x2 e0 e1 e2
    go_wp2_with fail
    refine (HK.out w2 hbw2).mono ?_
    rintro e w3 ⟨b3, rfl, hb3⟩
    go_wp2
    go_ret
    exact ⟨rfl, hbw2.trans (hb3.mono hbw2.size)⟩
  have HK : Hid (∀ W, Below w.heap.size w W → _) := fun W hb => checkNil_any a cap (.slice ca t.cls.length ccap) (.slice ea t.exc.length ecap) t hcap W p (hg.below hb) (hR.below hb) (hC.below hb) (hE.below hb) hl1 hl2 hl3 hl4 hx
  have hri4 := right4 hx
  have hN : NormAt w a cap (.slice ca t.cls.length ccap) (.slice ea t.exc.length ecap) t := ⟨hR, hC, hE, by omega, hcap, hri4⟩
  have hgg := hg.hg
  have hal : (apartM t.rows l).length ≤ 800 := by
    have h1 := apart_len hri4.row l
    have h2 : l.length * (t.rows.length + 3) ≤ 16 * 43 := Nat.mul_le_mul (by omega) (by omega)
    omega
  have hdl : (decM t l).length ≤ 800 := by rw [decM_len]; exact hal
  have hcl : (compM t l).length ≤ (decM t l).length := comp_len t l
  have hac : (apartM t.rows (compM t l)).length ≤ 2147483 := by
    have h1 := apart_len hri4.row (compM t l)
    have h2 : (compM t l).length * (t.rows.length + 3) ≤ 800 * 43 := Nat.mul_le_mul (by omega) (by omega)
    omega
  have HC1 : Hid (∀ W, Below w.heap.size w W → _) := fun W hb => compAll_any a cap (.slice ca t.cls.length ccap) (.slice ea t.exc.length ecap) t (.slice ql l.length cl) l W (hgg.below hb) (hN.below hb) (hvl.below hb) (by omega) (by omega)
  have HD1 : Hid (∀ W, Below w.heap.size w W → _) := fun W hb => decAll_any a cap (.slice ca t.cls.length ccap) (.slice ea t.exc.length ecap) t (.slice ql l.length cl) l W (hgg.below hb) (hN.below hb) (hvl.below hb) (by omega) (by omega)
  have HIS : Hid (∀ W v, Below w.heap.size w W → Runes W v (compM t l) → _) := fun W v hb hr => compIs_any a cap (.slice ca t.cls.length ccap) (.slice ea t.exc.length ecap) t v (compM t l) W (hgg.below hb) (hN.below hb) hr hac (by omega)
  have HC2 : Hid (∀ W v, Below w.heap.size w W → Runes W v (compM t l) → _) := fun W v hb hr => compAll_any a cap (.slice ca t.cls.length ccap) (.slice ea t.exc.length ecap) t v (compM t l) W (hgg.below hb) (hN.below hb) hr hac (by omega)
  have HD2 : Hid (∀ W v, Below w.heap.size w W → Runes W v (compM t l) → _) := fun W v hb hr => decAll_any a cap (.slice ca t.cls.length ccap) (.slice ea t.exc.length ecap) t v (compM t l) W (hgg.below hb) (hN.below hb) hr hac (by omega)
  rw [comp_comp hri4] at HIS HC2
  rw [dec_comp hri4] at HD2
  have HS1 : Hid (∀ W vx vy, Runes W vx (compM t l) → Runes W vy (compM t l) → _) := fun W vx vy h1 h2 => same_any vx vy (compM t l) W (by omega) h1 h2
  have HS2 : Hid (∀ W vx vy, Runes W vx (decM t l) → Runes W vy (decM t l) → _) := fun W vx vy h1 h2 => same_any vx vy (decM t l) W (by omega) h1 h2
  have beq_self : (compM t l == compM t l) = true := beq_self_eq_true _
  rw [beq_self] at HIS
  clear beq_self hac hal
  have hcz : decide ((decM t l).length < (compM t l).length) = false := by simp; omega
  have hcz2 : decide ((compM t l).length ≤ (decM t l).length) = true := by simp; omega
  have hcz3 : decide (((compM t l).length : Int) ≤ ((decM t l).length : Int)) = true := by simp; omega
  generalize compM t l = C at *
  generalize decM t l = D at *
  clear hgr hg hR hC hE hl4 hvl hx hri4 hN hgg
  go_enter Tryd.func5, Tryd.ntmps5
  go_wp2_with fail
  refine HA.out.mono ?_
  rintro e w1 ⟨rfl, hb1⟩
  obtain ⟨⟨x0, x1, x2⟩, hbw1⟩ := HEE.out w1 hb1
  go_wp2_with fail
  refine (HGr.out w1 hbw1).mono ?_
  rintro e w2 ⟨rfl, hb2⟩
  have hb02 := hb1.trans (hb2.mono hb1.size)
  obtain ⟨⟨y0, y1, y2⟩, hbw2⟩ := HEE.out w2 hb02
  clear x0 x1 x2 e0 e1 e2
  go_wp2_with fail
  refine (HK.out w2 hbw2).mono ?_
  rintro e w3 ⟨rfl, hb3⟩
  have hb03 := hb02.trans (hb3.mono hb02.size)
  obtain ⟨⟨z0, z1, z2⟩, hbw3⟩ := HEE.out w3 hb03
  clear y0 y1 y2 HA HGr HK hb1 hb2 hb3 hbw1 hbw2 hb02
  go_wp2_with fail
  refine (HC1.out w3 hbw3).mono ?_
  rintro e w4 ⟨v4, rfl, ho4, hb4⟩
  obtain ⟨a4, c4, rfl⟩ := own_slice ho4
  have r4 := Hid.mk' (Runes.own ho4)
  have hb04 := hb03.trans (hb4.mono hb03.size)
  obtain ⟨⟨z0, z1, z2⟩, hbw4⟩ := HEE.out w4 hb04
  clear HC1 ho4
  have s4 : ∀ W, Below w4.heap.size w4 W → Runes W (.slice a4 C.length c4) C := fun W hb => r4.out.below hb
  have R4 := Hid.mk' s4
  clear s4
  go_wp2_with fail
  refine (HD1.out w4 hbw4).mono ?_
  rintro e w5 ⟨v5, rfl, ho5, hb5⟩
  obtain ⟨a5, c5, rfl⟩ := own_slice ho5
  have r5 := Hid.mk' (Runes.own ho5)
  have hb05 := hb04.trans (hb5.mono hb04.size)
  obtain ⟨⟨z0, z1, z2⟩, hbw5⟩ := HEE.out w5 hb05
  clear HD1 ho5
  have s5 : ∀ W, Below w5.heap.size w5 W → Runes W (.slice a5 D.length c5) D := fun W hb => r5.out.below hb
  have R5 := Hid.mk' s5
  clear s5
  have k5 := hb5
  have H45 := Hid.mk' hb5
  go_wp2_with fail
  refine (HIS.out w5 _ hbw5 (R4.out w5 H45.out)).mono ?_
  rintro e w6 ⟨rfl, hb6⟩
  have hb06 := hb05.trans (hb6.mono hb05.size)
  obtain ⟨⟨z0, z1, z2⟩, hbw6⟩ := HEE.out w6 hb06
  go_wp2_with fail
  refine (HC2.out w6 _ hbw6 (R4.out w6 (H45.out.trans (hb6.mono H45.out.size)))).mono ?_
  rintro e w7 ⟨v7, rfl, ho7, hb7⟩
  obtain ⟨a7, c7, rfl⟩ := own_slice ho7
  have r7 := Hid.mk' (Runes.own ho7)
  have hb07 := hb06.trans (hb7.mono hb06.size)
  obtain ⟨⟨z0, z1, z2⟩, hbw7⟩ := HEE.out w7 hb07
  clear ho7
  have q46 : Hid (Below w4.heap.size w4 w7) := (H45.out.trans (hb6.mono H45.out.size)).trans (hb7.mono (H45.out.trans (hb6.mono H45.out.size)).size)
  go_wp2_with fail
  refine (HS1.out w7 _ _ r7.out (R4.out w7 q46.out)).mono ?_
  rintro e w8 ⟨rfl, hb8⟩
  have hb08 := hb07.trans (hb8.mono hb07.size)
  obtain ⟨⟨z0, z1, z2⟩, hbw8⟩ := HEE.out w8 hb08
  have q48 : Hid (Below w4.heap.size w4 w8) := q46.out.trans (hb8.mono q46.out.size)
  go_wp2_with fail
  refine (HD2.out w8 _ hbw8 (R4.out w8 q48.out)).mono ?_
  rintro e w9 ⟨v9, rfl, ho9, hb9⟩
  obtain ⟨a9, c9, rfl⟩ := own_slice ho9
  have r9 := Hid.mk' (Runes.own ho9)
  have hb09 := hb08.trans (hb9.mono hb08.size)
  obtain ⟨⟨z0, z1, z2⟩, hbw9⟩ := HEE.out w9 hb09
  clear ho9
  have q59 : Hid (Below w5.heap.size w5 w9) := ((hb6.trans (hb7.mono hb6.size)).trans (hb8.mono (hb6.trans (hb7.mono hb6.size)).size)).trans (hb9.mono ((hb6.trans (hb7.mono hb6.size)).trans (hb8.mono (hb6.trans (hb7.mono hb6.size)).size)).size)
  go_wp2_with fail
  refine (HS2.out w9 _ _ r9.out (R5.out w9 q59.out)).mono ?_
  rintro e w10 ⟨rfl, hb10⟩
  have hb010 := hb09.trans (hb10.mono hb09.size)
  obtain ⟨⟨z0, z1, z2⟩, hbw10⟩ := HEE.out w10 hb010
  go_wp2
  go_ret
  exact ⟨ret_bool (by first | rfl | (simp; done) | (simp; omega)), hbw10⟩
end Go.Proofs.YtojpkkbagcahdaaDoor

/-
  What is proved here: the law JsonvalEquals answers true at any two values and any name.
-/
import Derived.Test.YtjjoedkigjekcaaGreatDoorJU
namespace Go.Proofs.YtjjoedkigjekcaaGreatDoor
open Go.RowKit

set_option maxRecDepth 20000 in
set_option maxHeartbeats 8000000 in
theorem equals12_any (w : World) (p : Nat → Addr) (hg : Gl p w) (t : J) (hs : Small 140737488355328 t) (cs : List Value) (hv : VJ w t cs) (t' : J) (hs' : Small 140737488355328 t') (cs' : List Value) (hv' : VJ w t' cs') (n : List UInt8) :
    Calls Tryz.prog 5 #[.agg cs.toArray, .agg cs'.toArray, .string (strL n)] w fun e w' => e = .returned (.bool true) ∧ Below w.heap.size w w' := by
  obtain ⟨ak, aS, aa, an, aca, ab, am, acb, rfl⟩ := cell_forms hv
  obtain ⟨bk, bS, ba, bn, bca, bb, bm, bcb, rfl⟩ := cell_forms hv'
  obtain ⟨W0, hW0, hsz, hb0, ⟨e0, e1, e2, e3⟩, q0, q1, q2, q3⟩ := two_box w (.int .i64 ak) (.string aS) (.slice aa an aca) (.slice ab am acb) (.int .i64 bk) (.string bS) (.slice ba bn bca) (.slice bb bm bcb)
  have hv0 := hv.below hb0
  have hv0' := hv'.below hb0
  have hg0 := hg.below hb0
  have HAW := Hid.mk' (awake12_any W0 p hg0)
  have HE : Hid (∀ W, Below W0.heap.size W0 W → ((W.cell? ⟨w.heap.size, 0, none⟩ = some (.int .i64 ak) ∧ W.cell? ⟨w.heap.size, 1, none⟩ = some (.string aS) ∧ W.cell? ⟨w.heap.size, 2, none⟩ = some (.slice aa an aca) ∧ W.cell? ⟨w.heap.size, 3, none⟩ = some (.slice ab am acb)) ∧ W.cell? ⟨w.heap.size + 1, 0, none⟩ = some (.int .i64 bk) ∧ W.cell? ⟨w.heap.size + 1, 1, none⟩ = some (.string bS) ∧ W.cell? ⟨w.heap.size + 1, 2, none⟩ = some (.slice ba bn bca) ∧ W.cell? ⟨w.heap.size + 1, 3, none⟩ = some (.slice bb bm bcb)) ∧ Below w.heap.size w W) := fun W hb =>
    ⟨⟨⟨(hb.cell (lt_of_cell e0)).trans e0, (hb.cell (lt_of_cell e1)).trans e1, (hb.cell (lt_of_cell e2)).trans e2, (hb.cell (lt_of_cell e3)).trans e3⟩, (hb.cell (lt_of_cell q0)).trans q0, (hb.cell (lt_of_cell q1)).trans q1, (hb.cell (lt_of_cell q2)).trans q2, (hb.cell (lt_of_cell q3)).trans q3⟩, hb0.trans (hb.mono hb0.size)⟩
  have HT : Hid (∀ W W', Below W0.heap.size W0 W → Below W.heap.size W W' → Below W0.heap.size W0 W') := below_tr
  have HGA : Hid (∀ W, Below W0.heap.size W0 W → _) := fun W hb => great12_any t hs _ W (hv0.below hb)
  have HGB : Hid (∀ W, Below W0.heap.size W0 W → _) := fun W hb => great12_any t' hs' _ W (hv0'.below hb)
  have HRA : Hid (weight t ≤ 4000 → ∀ W, Below W0.heap.size W0 W → _) := fun hw W hb => right12_any t hw _ W (hv0.below hb)
  have HRB : Hid (weight t' ≤ 4000 → ∀ W, Below W0.heap.size W0 W → _) := fun hw W hb => right12_any t' hw _ W (hv0'.below hb)
  have HVA : Hid (∀ W, Below W0.heap.size W0 W → VJ W t [.int .i64 ak, .string aS, .slice aa an aca, .slice ab am acb]) := fun W hb => hv0.below hb
  have HVB : Hid (∀ W, Below W0.heap.size W0 W → VJ W t' [.int .i64 bk, .string bS, .slice ba bn bca, .slice bb bm bcb]) := fun W hb => hv0'.below hb
  have hstart : Below W0.heap.size W0 W0 := Below.refl _ _
  obtain ⟨NS, hNS⟩ : ∃ NS, strL n = NS := ⟨_, rfl⟩
  have HNS := Hid.mk' hNS
  rw [hNS]
  clear hNS hv hv0 hv' hv0' hg hg0 e0 e1 e2 e3 q0 q1 q2 q3 hs hs'
  go_enter Tryz.func5, Tryz.ntmps5
  go_wp2_with fail
  refine HAW.out.mono ?_
  rintro e w1 ⟨rfl, hb1⟩
  have hz1 := HT.out _ _ hstart hb1
  obtain ⟨⟨⟨f0, f1, f2, f3⟩, k0, k1, k2, k3⟩, hfin⟩ := HE.out _ hz1
  have HGx := Hid.mk' (HGA.out _ hz1)
  clear HAW HGA hb1 hstart
  go_wp2_with fail
  refine HGx.out.mono ?_
  rintro e w2 ⟨rfl, hb2⟩
  have hz2 := HT.out _ _ hz1 hb2
  clear HGx f0 f1 f2 f3 k0 k1 k2 k3 hfin hb2 hz1
  obtain ⟨⟨⟨f0, f1, f2, f3⟩, k0, k1, k2, k3⟩, hfin⟩ := HE.out _ hz2
  by_cases hw : 2000 < weight t
  · have hd : decide (2000 < weight t) = true := decide_eq_true hw
    rw [hd]
    clear HGB HRA HRB HVA HVB HNS
    go_wp2
    go_ret
    exact ⟨rfl, hfin⟩
  have hd : decide (2000 < weight t) = false := decide_eq_false hw
  rw [hd]
  have HGx := Hid.mk' (HGB.out _ hz2)
  clear HGB
  go_wp2_with fail
  refine HGx.out.mono ?_
  rintro e w3 ⟨rfl, hb3⟩
  have hz3 := HT.out _ _ hz2 hb3
  clear HGx f0 f1 f2 f3 k0 k1 k2 k3 hfin hb3 hz2
  obtain ⟨⟨⟨f0, f1, f2, f3⟩, k0, k1, k2, k3⟩, hfin⟩ := HE.out _ hz3
  by_cases hw' : 2000 < weight t'
  · have hd' : decide (2000 < weight t') = true := decide_eq_true hw'
    rw [hd']
    clear HRA HRB HVA HVB HNS
    go_wp2
    go_ret
    exact ⟨rfl, hfin⟩
  have hd' : decide (2000 < weight t') = false := decide_eq_false hw'
  rw [hd']
  have HGx := Hid.mk' (HRA.out (by omega) _ hz3)
  clear HRA
  go_wp2_with fail
  refine HGx.out.mono ?_
  rintro e w4 ⟨rfl, hb4⟩
  have hz4 := HT.out _ _ hz3 hb4
  clear HGx f0 f1 f2 f3 k0 k1 k2 k3 hfin hb4 hz3
  obtain ⟨⟨⟨f0, f1, f2, f3⟩, k0, k1, k2, k3⟩, hfin⟩ := HE.out _ hz4
  by_cases hr : (checkM gd t).2 = 0
  rotate_left
  · have hrb : ((checkM gd t).2 == 0) = false := by simp [hr]
    rw [hrb]
    clear HRB HVA HVB HNS
    go_wp2
    go_ret
    exact ⟨rfl, hfin⟩
  have hrb : ((checkM gd t).2 == 0) = true := by simp [hr]
  rw [hrb]
  have HGx := Hid.mk' (HRB.out (by omega) _ hz4)
  clear HRB
  go_wp2_with fail
  refine HGx.out.mono ?_
  rintro e w5 ⟨rfl, hb5⟩
  have hz5 := HT.out _ _ hz4 hb5
  clear HGx f0 f1 f2 f3 k0 k1 k2 k3 hfin hb5 hz4
  obtain ⟨⟨⟨f0, f1, f2, f3⟩, k0, k1, k2, k3⟩, hfin⟩ := HE.out _ hz5
  by_cases hr' : (checkM gd t').2 = 0
  rotate_left
  · have hrb' : ((checkM gd t').2 == 0) = false := by simp [hr']
    rw [hrb']
    clear HVA HVB HNS
    go_wp2
    go_ret
    exact ⟨rfl, hfin⟩
  have hrb' : ((checkM gd t').2 == 0) = true := by simp [hr']
  rw [hrb']
  have HWA : Hid (weight t ≤ 4000 ∧ weight t' ≤ 4000) := Hid.mk' ⟨by omega, by omega⟩
  have HGD : Hid (Good gd t ∧ Good gd t') := Hid.mk' ⟨check_good hr, check_good hr'⟩
  clear hw hd hw' hd' hr hrb hr' hrb'
  have HEQ := Hid.mk' (equal_any t t' _ _ w5 (HVA.out _ hz5) (HVB.out _ hz5) HWA.out.1 HWA.out.2 HGD.out.2)
  go_wp2_with fail
  refine HEQ.out.mono ?_
  rintro e w6 ⟨⟨same, rfl, hsame⟩, hb6⟩
  have Hsame := Hid.mk' hsame
  have hz6 := HT.out _ _ hz5 hb6
  clear HEQ f0 f1 f2 f3 k0 k1 k2 k3 hfin hb6 hz5 hsame
  obtain ⟨⟨⟨f0, f1, f2, f3⟩, k0, k1, k2, k3⟩, hfin⟩ := HE.out _ hz6
  have HGT := Hid.mk' (get12_any t HWA.out.1 n _ w6 (HVA.out _ hz6) HGD.out.1)
  rw [HNS.out] at HGT
  go_wp2_with fail
  refine HGT.out.mono ?_
  rintro e w7 ⟨⟨ds, rfl, hvx⟩, hb7⟩
  have hz7 := HT.out _ _ hz6 hb7
  clear HGT f0 f1 f2 f3 k0 k1 k2 k3 hfin hb7 hz6
  obtain ⟨ok, hok⟩ : ∃ ok, (getM t.m n).isSome = ok := ⟨_, rfl⟩
  obtain ⟨xk, xS, xa, xn, xca, xb, xm, xcb, rfl⟩ := cell_forms hvx
  obtain ⟨W1, hW1, hsz1, hbx, x0, x1, x2, x3⟩ := val_box w7 (.int .i64 xk) (.string xS) (.slice xa xn xca) (.slice xb xm xcb)
  have hvx1 := hvx.below hbx
  have hzx : Below W0.heap.size W0 W1 := hz7.trans (hbx.mono hz7.size)
  have HOK := Hid.mk' hok
  rw [hok]
  have HVX : Hid (∀ W, Below W1.heap.size W1 W → VJ W ((getM t.m n).getD zeroJ) [.int .i64 xk, .string xS, .slice xa xn xca, .slice xb xm xcb]) := fun W hb => hvx1.below hb
  have HX : Hid (∀ W, Below W1.heap.size W1 W → (W.cell? ⟨w7.heap.size, 0, none⟩ = some (.int .i64 xk) ∧ W.cell? ⟨w7.heap.size, 1, none⟩ = some (.string xS) ∧ W.cell? ⟨w7.heap.size, 2, none⟩ = some (.slice xa xn xca) ∧ W.cell? ⟨w7.heap.size, 3, none⟩ = some (.slice xb xm xcb)) ∧ Below W0.heap.size W0 W) := fun W hb =>
    ⟨⟨(hb.cell (lt_of_cell x0)).trans x0, (hb.cell (lt_of_cell x1)).trans x1, (hb.cell (lt_of_cell x2)).trans x2, (hb.cell (lt_of_cell x3)).trans x3⟩, hzx.trans (hb.mono hzx.size)⟩
  clear hok hvx hvx1 hbx hz7 x0 x1 x2 x3
  obtain ⟨⟨⟨f0, f1, f2, f3⟩, k0, k1, k2, k3⟩, hfin⟩ := HE.out _ hzx
  have HGT := Hid.mk' (get12_any t' HWA.out.2 n _ W1 (HVB.out _ hzx) HGD.out.2)
  rw [HNS.out] at HGT
  go_wp2_with fail
  refine HGT.out.mono ?_
  rintro e w8 ⟨⟨ds, rfl, hvy⟩, hb8⟩
  have hz8 := below_tr _ _ (Below.refl _ W1) hb8
  clear HGT f0 f1 f2 f3 k0 k1 k2 k3 hfin hb8
  obtain ⟨ok', hok'⟩ : ∃ ok', (getM t'.m n).isSome = ok' := ⟨_, rfl⟩
  obtain ⟨yk, yS, ya, yn, yca, yb, ym, ycb, rfl⟩ := cell_forms hvy
  obtain ⟨W2, hW2, hsz2, hby, y0, y1, y2, y3⟩ := val_box w8 (.int .i64 yk) (.string yS) (.slice ya yn yca) (.slice yb ym ycb)
  have hvy1 := hvy.below hby
  have hzy : Below W1.heap.size W1 W2 := hz8.trans (hby.mono hz8.size)
  have HOK' := Hid.mk' hok'
  rw [hok']
  have HB : Hid (∀ W, Below W2.heap.size W2 W → ((W.cell? ⟨w.heap.size, 0, none⟩ = some (.int .i64 ak) ∧ W.cell? ⟨w.heap.size, 1, none⟩ = some (.string aS) ∧ W.cell? ⟨w.heap.size, 2, none⟩ = some (.slice aa an aca) ∧ W.cell? ⟨w.heap.size, 3, none⟩ = some (.slice ab am acb)) ∧ (W.cell? ⟨w.heap.size + 1, 0, none⟩ = some (.int .i64 bk) ∧ W.cell? ⟨w.heap.size + 1, 1, none⟩ = some (.string bS) ∧ W.cell? ⟨w.heap.size + 1, 2, none⟩ = some (.slice ba bn bca) ∧ W.cell? ⟨w.heap.size + 1, 3, none⟩ = some (.slice bb bm bcb)) ∧ (W.cell? ⟨w7.heap.size, 0, none⟩ = some (.int .i64 xk) ∧ W.cell? ⟨w7.heap.size, 1, none⟩ = some (.string xS) ∧ W.cell? ⟨w7.heap.size, 2, none⟩ = some (.slice xa xn xca) ∧ W.cell? ⟨w7.heap.size, 3, none⟩ = some (.slice xb xm xcb)) ∧ (W.cell? ⟨w8.heap.size, 0, none⟩ = some (.int .i64 yk) ∧ W.cell? ⟨w8.heap.size, 1, none⟩ = some (.string yS) ∧ W.cell? ⟨w8.heap.size, 2, none⟩ = some (.slice ya yn yca) ∧ W.cell? ⟨w8.heap.size, 3, none⟩ = some (.slice yb ym ycb))) ∧ Below w.heap.size w W) := fun W hb => by
    have h1 := HX.out W (hzy.trans (hb.mono hzy.size))
    have h0 := HE.out W h1.2
    exact ⟨⟨h0.1.1, h0.1.2, h1.1, (hb.cell (lt_of_cell y0)).trans y0, (hb.cell (lt_of_cell y1)).trans y1, (hb.cell (lt_of_cell y2)).trans y2, (hb.cell (lt_of_cell y3)).trans y3⟩, h0.2⟩
  have HVs : Hid (∀ W, Below W2.heap.size W2 W → VJ W t [.int .i64 ak, .string aS, .slice aa an aca, .slice ab am acb] ∧ VJ W t' [.int .i64 bk, .string bS, .slice ba bn bca, .slice bb bm bcb] ∧ VJ W ((getM t.m n).getD zeroJ) [.int .i64 xk, .string xS, .slice xa xn xca, .slice xb xm xcb] ∧ VJ W ((getM t'.m n).getD zeroJ) [.int .i64 yk, .string yS, .slice ya yn yca, .slice yb ym ycb]) := fun W hb => by
    have hb1 := hzy.trans (hb.mono hzy.size)
    have h1 := HX.out W hb1
    exact ⟨HVA.out W h1.2, HVB.out W h1.2, HVX.out W hb1, hvy1.below hb⟩
  have HT2 : Hid (∀ W W', Below W2.heap.size W2 W → Below W.heap.size W W' → Below W2.heap.size W2 W') := below_tr
  clear hok' hvy hvy1 hby hz8 hzy hzx y0 y1 y2 y3 HVA HVB HVX HX HE HT
  have hst2 : Below W2.heap.size W2 W2 := Below.refl _ _
  obtain ⟨⟨⟨f0, f1, f2, f3⟩, ⟨k0, k1, k2, k3⟩, ⟨x0, x1, x2, x3⟩, y0, y1, y2, y3⟩, hfin⟩ := HB.out _ hst2
  go_upto_region 8 with fail
  go_cut [7, 78] from 47 to 77 (fun _ x wx => x = .bool false ∧ Below W2.heap.size W2 wx)
  case first =>
    have HEab : Hid (∀ W, Below W2.heap.size W2 W → _) := fun W hb => equal12_any t t' _ _ W (HVs.out W hb).1 (HVs.out W hb).2.1 HWA.out.1 HWA.out.2 HGD.out.1 HGD.out.2
    have HEba : Hid (∀ W, Below W2.heap.size W2 W → _) := fun W hb => equal12_any t' t _ _ W (HVs.out W hb).2.1 (HVs.out W hb).1 HWA.out.2 HWA.out.1 HGD.out.2 HGD.out.1
    have HEaa : Hid (∀ W, Below W2.heap.size W2 W → _) := fun W hb => equal12_any t t _ _ W (HVs.out W hb).1 (HVs.out W hb).1 HWA.out.1 HWA.out.1 HGD.out.1 HGD.out.1
    have HExy : Hid (∀ W, Below W2.heap.size W2 W → _) := fun W hb => equal_any ((getM t.m n).getD zeroJ) ((getM t'.m n).getD zeroJ) _ _ W (HVs.out W hb).2.2.1 (HVs.out W hb).2.2.2 (get_weight (by omega) HWA.out.1 n) (get_weight (by omega) HWA.out.2 n) (get_good HGD.out.2 n)
    have HSY : Hid (Eqv t' t ↔ Eqv t t') := Hid.mk' ⟨Eqv.symm gd t' t HGD.out.2 HGD.out.1, Eqv.symm gd t t' HGD.out.1 HGD.out.2⟩
    have HSG : Hid (Eqv t t' → ok = ok' ∧ Eqv ((getM t.m n).getD zeroJ) ((getM t'.m n).getD zeroJ)) := fun h => by
      rw [← HOK.out, ← HOK'.out]
      exact eqv_get HGD.out.1 HGD.out.2 h n
    have HRF := Hid.mk' (Eqv.refl t)
    clear HVs HWA HGD HNS HOK HOK'
    cases same
    · have hne : ¬ Eqv t t' := fun h => by have := Hsame.out.2 h; cases this
      have HNE := Hid.mk' hne
      clear hne Hsame HSG HExy
      go_wp2_with fail
      refine (HEab.out _ hst2).mono ?_
      rintro e v1 ⟨⟨z, rfl, hz⟩, hc1⟩
      obtain rfl : z = false := by cases z with | false => rfl | true => exact absurd (hz.1 rfl) HNE.out
      have hd1 := HT2.out _ _ hst2 hc1
      clear HEab hz hst2 f0 f1 f2 f3 k0 k1 k2 k3 x0 x1 x2 x3 y0 y1 y2 y3 hfin hc1
      obtain ⟨⟨⟨f0, f1, f2, f3⟩, ⟨k0, k1, k2, k3⟩, ⟨x0, x1, x2, x3⟩, y0, y1, y2, y3⟩, hfin⟩ := HB.out _ hd1
      go_wp2_with fail
      refine (HEba.out _ hd1).mono ?_
      rintro e v2 ⟨⟨z, rfl, hz⟩, hc2⟩
      obtain rfl : z = false := by cases z with | false => rfl | true => exact absurd (HSY.out.1 (hz.1 rfl)) HNE.out
      have hd2 := HT2.out _ _ hd1 hc2
      clear HEba hz f0 f1 f2 f3 k0 k1 k2 k3 x0 x1 x2 x3 y0 y1 y2 y3 hfin hc2 hd1
      obtain ⟨⟨⟨f0, f1, f2, f3⟩, ⟨k0, k1, k2, k3⟩, ⟨x0, x1, x2, x3⟩, y0, y1, y2, y3⟩, hfin⟩ := HB.out _ hd2
      go_wp2_with fail
      refine (HEaa.out _ hd2).mono ?_
      rintro e v3 ⟨⟨z, rfl, hz⟩, hc3⟩
      obtain rfl : z = true := hz.2 HRF.out
      have hd3 := HT2.out _ _ hd2 hc3
      clear HEaa hz f0 f1 f2 f3 k0 k1 k2 k3 x0 x1 x2 x3 y0 y1 y2 y3 hfin hc3 hd2 HNE HSY HRF
      go_wp2
      go_meet
      exact ⟨rfl, hd3⟩
    · have heq : Eqv t t' := Hsame.out.1 rfl
      obtain ⟨rfl, hxy⟩ := HSG.out heq
      have HEE := Hid.mk' heq
      have HXY := Hid.mk' hxy
      clear heq hxy Hsame HSG
      go_wp2_with fail
      refine (HEab.out _ hst2).mono ?_
      rintro e v1 ⟨⟨z, rfl, hz⟩, hc1⟩
      obtain rfl : z = true := hz.2 HEE.out
      have hd1 := HT2.out _ _ hst2 hc1
      clear HEab hz hst2 f0 f1 f2 f3 k0 k1 k2 k3 x0 x1 x2 x3 y0 y1 y2 y3 hfin hc1
      obtain ⟨⟨⟨f0, f1, f2, f3⟩, ⟨k0, k1, k2, k3⟩, ⟨x0, x1, x2, x3⟩, y0, y1, y2, y3⟩, hfin⟩ := HB.out _ hd1
      go_wp2_with fail
      refine (HEba.out _ hd1).mono ?_
      rintro e v2 ⟨⟨z, rfl, hz⟩, hc2⟩
      obtain rfl : z = true := hz.2 (HSY.out.2 HEE.out)
      have hd2 := HT2.out _ _ hd1 hc2
      clear HEba hz f0 f1 f2 f3 k0 k1 k2 k3 x0 x1 x2 x3 y0 y1 y2 y3 hfin hc2 hd1
      obtain ⟨⟨⟨f0, f1, f2, f3⟩, ⟨k0, k1, k2, k3⟩, ⟨x0, x1, x2, x3⟩, y0, y1, y2, y3⟩, hfin⟩ := HB.out _ hd2
      go_wp2_with fail
      refine (HEaa.out _ hd2).mono ?_
      rintro e v3 ⟨⟨z, rfl, hz⟩, hc3⟩
      obtain rfl : z = true := hz.2 HRF.out
      have hd3 := HT2.out _ _ hd2 hc3
      clear HEaa hz f0 f1 f2 f3 k0 k1 k2 k3 x0 x1 x2 x3 y0 y1 y2 y3 hfin hc3 hd2
      obtain ⟨⟨⟨f0, f1, f2, f3⟩, ⟨k0, k1, k2, k3⟩, ⟨x0, x1, x2, x3⟩, y0, y1, y2, y3⟩, hfin⟩ := HB.out _ hd3
      cases ok
      all_goals
        go_wp2_with fail
        refine (HExy.out _ hd3).mono ?_
        rintro e v4 ⟨⟨z, rfl, hz⟩, hc4⟩
        obtain rfl : z = true := hz.2 HXY.out
        have hd4 := HT2.out _ _ hd3 hc4
        clear HExy hz f0 f1 f2 f3 k0 k1 k2 k3 x0 x1 x2 x3 y0 y1 y2 y3 hfin hc4 hd3 HEE HXY HSY HRF
        go_wp2
        go_meet
        exact ⟨rfl, hd4⟩
  case rest =>
    obtain ⟨rfl, hd5⟩ := hcut
    obtain ⟨pa, pca, pb, pcb, hpe, -, hM⟩ := (HVs.out _ hd5).1.parts
    simp only [List.cons.injEq, Value.slice.injEq, and_true] at hpe
    obtain ⟨-, -, -, rfl, rfl, rfl⟩ := hpe
    have HMB : Hid (∀ (j : Nat) (x : List UInt8 × J), t.m[j]? = some x → _) := fun j x hj => memb_at hM hj
    have HNDt := Hid.mk' (good_names HGD.out.1)
    have HGA : Hid (∀ (i : Nat) (x : List UInt8 × J), t.m[i]? = some x → x.1 = n → ok = true ∧ (getM t.m n).getD zeroJ = x.2) := fun i x hx e => by
      have := getM_at HNDt.out hx e
      rw [← HOK.out, this]
      exact ⟨rfl, rfl⟩
    have HGN : Hid (ok = true → ∃ (i : Nat) (x : List UInt8 × J), t.m[i]? = some x ∧ x.1 = n) := fun h => by
      rw [← HOK.out] at h
      obtain ⟨v, hv⟩ := Option.isSome_iff_exists.1 h
      obtain ⟨i, x, hx, e, -⟩ := getM_some hv
      exact ⟨i, x, hx, e⟩
    have HGZ : Hid (ok = false → (getM t.m n).getD zeroJ = zeroJ) := fun h => by
      rw [← HOK.out] at h
      cases g : getM t.m n with
      | none => rfl
      | some v => rw [g] at h; cases h
    have HXW := Hid.mk' (get_weight (t := t) (by omega) HWA.out.1 n)
    have HMW : Hid (∀ (j : Nat) (x : List UInt8 × J), t.m[j]? = some x → weight x.2 ≤ 4000) := fun j x hx => weight_member HWA.out.1 hx
    have hml : t.m.length ≤ 4000 := by
      have h := HWA.out.1
      obtain ⟨k1, s1, l1, m1⟩ := t
      exact (weight_parts h).2.2.1
    have HC : Hid (∀ W, Below wc.heap.size wc W → (W.cell? ⟨w.heap.size, 3, none⟩ = some (.slice ab t.m.length acb) ∧ W.cell? ⟨w7.heap.size, 0, none⟩ = some (.int .i64 xk) ∧ W.cell? ⟨w7.heap.size, 1, none⟩ = some (.string xS) ∧ W.cell? ⟨w7.heap.size, 2, none⟩ = some (.slice xa xn xca) ∧ W.cell? ⟨w7.heap.size, 3, none⟩ = some (.slice xb xm xcb)) ∧ Below w.heap.size w W ∧ VJ W ((getM t.m n).getD zeroJ) [.int .i64 xk, .string xS, .slice xa xn xca, .slice xb xm xcb]) := fun W hb => by
      have h := HB.out W (hd5.trans (hb.mono hd5.size))
      exact ⟨⟨h.1.1.2.2.2, h.1.2.2.1⟩, h.2, (HVs.out W (hd5.trans (hb.mono hd5.size))).2.2.1⟩
    have HT3 : Hid (∀ W W', Below wc.heap.size wc W → Below W.heap.size W W' → Below wc.heap.size wc W') := below_tr
    have hst3 : Below wc.heap.size wc wc := Below.refl _ _
    obtain ⟨xJ, hxJ⟩ : ∃ xJ, (getM t.m n).getD zeroJ = xJ := ⟨_, rfl⟩
    rw [hxJ] at HGA HGZ HXW HC
    have HC0 : Hid ((0 : Nat) < 0 ↔ ∃ (i : Nat) (x : List UInt8 × J), i < 0 ∧ t.m[i]? = some x ∧ x.1 = n) := Hid.mk' ⟨fun h => by omega, fun ⟨i, x, h, _⟩ => by omega⟩
    clear hM hxJ HVs HB HT2 HGD HWA Hsame HOK HOK' HNDt hst2 hfin f0 f1 f2 f3 k0 k1 k2 k3 x0 x1 x2 x3 y0 y1 y2 y3 hd5
    obtain ⟨⟨f3, x0, x1, x2, x3⟩, hfin, -⟩ := HC.out _ hst3
    go_wp2
    go_loopw [12, 13] (fun x12 x13 wr => ∃ (c j : Nat), x12 = .int .i64 c ∧ x13 = .int .i64 j ∧ j ≤ t.m.length ∧ c ≤ j ∧ Hid (0 < c ↔ ∃ (i : Nat) (x : List UInt8 × J), i < j ∧ t.m[i]? = some x ∧ x.1 = n) ∧ Below wc.heap.size wc wr) (fun _ x13 _ => t.m.length - (intOf x13).toNat)
    case atStart => exact ⟨0, 0, rfl, rfl, Nat.zero_le _, Nat.zero_le _, HC0, hst3⟩
    case round =>
      clear HC0 hst3 hfin f3 x0 x1 x2 x3
      obtain ⟨c, j, rfl, rfl, hj, hcj, HN, hbr⟩ := hrel
      obtain ⟨⟨f3, x0, x1, x2, x3⟩, hfin, hvx⟩ := HC.out _ hbr
      by_cases hlt : j < t.m.length
      · obtain ⟨x, hx⟩ := get_lt hlt
        obtain ⟨bb, ob, c0, c1, c2, c3, rfl, hm⟩ := HMB.out j x hx
        have Hm := Hid.mk' hm
        have g0 := (hm _ hbr).1.1
        have Hx := Hid.mk' hx
        clear hm hx hvx
        rcases text_test x.1 n with ⟨hn, hnb⟩ | ⟨hn, hnb⟩
        · rw [HNS.out] at hnb
          obtain ⟨rfl, hxe⟩ := HGA.out j x Hx.out hn
          have HSM : Hid (∀ W, Below wc.heap.size wc W → _) := fun W hb => same_any x.2 xJ _ _ W (Hm.out W hb).2 (HC.out W hb).2.2 (HMW.out j x Hx.out)
          have HSS : Hid (∀ W, Below wc.heap.size wc W → (W.cell? ⟨w.heap.size, 3, none⟩ = some (.slice (some ⟨bb, ob, none⟩) t.m.length acb) ∧ W.cell? ⟨w7.heap.size, 0, none⟩ = some (.int .i64 xk) ∧ W.cell? ⟨w7.heap.size, 1, none⟩ = some (.string xS) ∧ W.cell? ⟨w7.heap.size, 2, none⟩ = some (.slice xa xn xca) ∧ W.cell? ⟨w7.heap.size, 3, none⟩ = some (.slice xb xm xcb)) ∧ W.cell? ⟨bb, ob + j * 5 + 1, none⟩ = some c0 ∧ W.cell? ⟨bb, ob + j * 5 + 2, none⟩ = some c1 ∧ W.cell? ⟨bb, ob + j * 5 + 3, none⟩ = some c2 ∧ W.cell? ⟨bb, ob + j * 5 + 4, none⟩ = some c3) := fun W hb => ⟨(HC.out W hb).1, (Hm.out W hb).1.2⟩
          have HN2 : Hid (0 < c + 1 ↔ ∃ (i : Nat) (x : List UInt8 × J), i < j + 1 ∧ t.m[i]? = some x ∧ x.1 = n) := Hid.mk' ⟨fun _ => ⟨j, x, by omega, Hx.out, hn⟩, fun _ => by omega⟩
          have HXE := Hid.mk' hxe
          have hbrd := hbr.drew
          generalize strL x.1 = X at *
          clear HN Hm Hx hn hxe HMB HGA HGN HGZ HMW
          go_wp2
          go_region_held3 (fun W' => (W'.cell? ⟨w.heap.size, 3, none⟩ = some (.slice (some ⟨bb, ob, none⟩) t.m.length acb) ∧ W'.cell? ⟨w7.heap.size, 0, none⟩ = some (.int .i64 xk) ∧ W'.cell? ⟨w7.heap.size, 1, none⟩ = some (.string xS) ∧ W'.cell? ⟨w7.heap.size, 2, none⟩ = some (.slice xa xn xca) ∧ W'.cell? ⟨w7.heap.size, 3, none⟩ = some (.slice xb xm xcb)) ∧ W'.cell? ⟨bb, ob + j * 5 + 1, none⟩ = some c0 ∧ W'.cell? ⟨bb, ob + j * 5 + 2, none⟩ = some c1 ∧ W'.cell? ⟨bb, ob + j * 5 + 3, none⟩ = some c2 ∧ W'.cell? ⟨bb, ob + j * 5 + 4, none⟩ = some c3) (exact HSS.out _ (by assumption)) (first
            | (go_at_call 25; refine (HSM.out _ (by assumption)).mono ?_; rintro e wS ⟨⟨z, rfl, hzz⟩, hbS⟩; have hzS := HT3.out _ _ (by assumption) hbS))
          obtain rfl : z = true := hzz.2 HXE.out.symm
          clear HSM HSS hbrd hzz hbS f3 x0 x1 x2 x3 g0 hbr hfin
          go_wp2
          go_roundw
          case rel =>
            have hrl : ∃ (c' j' : Nat), Value.int .i64 ((c : Int) + 1) = .int .i64 c' ∧ Value.int .i64 ((j : Int) + 1) = .int .i64 j' ∧ j' ≤ t.m.length ∧ c' ≤ j' ∧ Hid (0 < c' ↔ ∃ (i : Nat) (x : List UInt8 × J), i < j' ∧ t.m[i]? = some x ∧ x.1 = n) ∧ Below wc.heap.size wc wS := ⟨c + 1, j + 1, by go_num, by go_num, by omega, by omega, HN2, hzS⟩
            first | exact hrl | ((repeat apply Exists.intro); exact ⟨hrl, rfl⟩)
          case measure => simp [intOf]; omega
        · rw [HNS.out] at hnb
          have HN2 : Hid (0 < c ↔ ∃ (i : Nat) (x : List UInt8 × J), i < j + 1 ∧ t.m[i]? = some x ∧ x.1 = n) := by
            refine ⟨fun h => ?_, fun ⟨i, y, hi, hy, e⟩ => ?_⟩
            · obtain ⟨i, y, hi, r⟩ := HN.out.1 h
              exact ⟨i, y, by omega, r⟩
            · rcases Nat.lt_or_ge i j with g | g
              · exact HN.out.2 ⟨i, y, g, hy, e⟩
              · obtain rfl : i = j := by omega
                obtain rfl := Option.some.inj (Hx.out.symm.trans hy)
                exact absurd e hn
          generalize strL x.1 = X at *
          clear HN Hm Hx hn HMB HGA HGN HGZ HMW
          go_wp2
          go_roundw
          case rel => exact ⟨c, j + 1, rfl, by go_num, by omega, by omega, HN2, hbr⟩
          case measure => simp [intOf]; omega
      · have hcc : 0 < c ↔ ok = true := by
          refine HN.out.trans ⟨fun ⟨i, x, _, hx, e⟩ => (HGA.out i x hx e).1, fun h => ?_⟩
          obtain ⟨i, x, hx, e⟩ := HGN.out h
          exact ⟨i, x, by have := (List.getElem?_eq_some_iff.1 hx).1; omega, hx, e⟩
        cases ok
        · obtain rfl : c = 0 := by
            rcases Nat.eq_zero_or_pos c with h | h
            · exact h
            · have := hcc.1 h
              cases this
          have hxz := HGZ.out rfl
          have HZ := Hid.mk' (same_any xJ zeroJ [.int .i64 xk, .string xS, .slice xa xn xca, .slice xb xm xcb] [.int .i64 0, .string ⟨#[]⟩, .slice none 0 0, .slice none 0 0] wr hvx ((VJ_mk ..).2 ⟨none, 0, none, 0, rfl, fun j t h => by simp at h, fun j x h => by simp at h⟩) HXW.out)
          have HXZ := Hid.mk' hxz
          clear HN HMB HGA HGN HGZ HMW hcc hvx hxz
          go_wp2_with fail
          refine HZ.out.mono ?_
          rintro e wS ⟨⟨z, rfl, hzz⟩, hbS⟩
          obtain rfl : z = true := hzz.2 HXZ.out
          have hfinS := (HC.out _ (HT3.out _ _ hbr hbS)).2.1
          clear HZ f3 x0 x1 x2 x3 hbr hfin hbS hzz
          go_wp2
          go_ret
          exact ⟨rfl, hfinS⟩
        · have hc0 : 0 < c := hcc.2 rfl
          clear HN HMB HGA HGN HGZ HMW hcc hvx
          go_wp2
          go_ret
          exact ⟨rfl, hfin⟩
theorem equals12S_any (w : World) (p : Nat → Addr) (hg : Gl p w) (t : J) (hs : Small 140737488355328 t) (cs : List Value) (hv : VJ w t cs) (t' : J) (hs' : Small 140737488355328 t') (cs' : List Value) (hv' : VJ w t' cs') (s : ByteArray) :
    Calls Tryz.prog 5 #[.agg cs.toArray, .agg cs'.toArray, .string s] w fun e w' => e = .returned (.bool true) ∧ Below w.heap.size w w' := by
  have h := equals12_any w p hg t hs cs hv t' hs' cs' hv' s.data.toList
  rw [strL_of] at h
  exact h
end Go.Proofs.YtjjoedkigjekcaaGreatDoor

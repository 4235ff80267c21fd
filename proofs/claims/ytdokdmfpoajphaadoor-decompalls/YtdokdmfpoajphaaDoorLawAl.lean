/-
  What is proved here: that DecompAlls answers true at every norm and list.
-/
import Derived.Test.YtdokdmfpoajphaaDoorKT
import Derived.Test.YtdokdmfpoajphaaDoorKS
import Derived.Test.YtdokdmfpoajphaaDoorSe
import Derived.Test.YtdokdmfpoajphaaDoorKE
import Derived.Test.YtdokdmfpoajphaaDoorKB
namespace Go.Proofs.YtdokdmfpoajphaaDoor
open Go.RowKit Go.Sort

set_option maxRecDepth 20000 in
set_option maxHeartbeats 16000000 in
theorem alls_any (w : World) (p : Nat → Addr) (hg : Gl p w) (a : Option Addr) (cap : Nat) (vc ve : Value) (t : Nm) (hcap : t.rows.length ≤ cap) (hR : Rows4 w (.slice a t.rows.length cap) t.rows) (hC : Tab w vc t.cls) (hE : Runes w ve t.exc) (v : Value) (l : List Int) (hv : Runes w v l) :
    Calls Tryd.prog 8 #[.agg #[.slice a t.rows.length cap, vc, ve], v] w fun e w' => e = .returned (.bool true) ∧ Below w.heap.size w w' := by
  obtain ⟨W0, hW0, hsz, hb0, e0, e1, e2⟩ := norm_box w (.slice a t.rows.length cap) vc ve
  have HA := Hid.mk' (awake4_any W0 p (hg.below hb0))
  have HGr : Hid (∀ W, Below w.heap.size w W → _) := fun W hb => great_any (.slice a t.rows.length cap) vc ve t W (hR.below hb) (hC.below hb) (hE.below hb)
  obtain ⟨ca, ccap, rfl, -⟩ := id hC
  obtain ⟨ea, ecap, rfl, -⟩ := id hE
  have HEE : Hid (∀ W, Below W0.heap.size W0 W → (W.cell? ⟨w.heap.size, 0, none⟩ = some (.slice a t.rows.length cap) ∧ W.cell? ⟨w.heap.size, 1, none⟩ = some (.slice ca t.cls.length ccap) ∧ W.cell? ⟨w.heap.size, 2, none⟩ = some (.slice ea t.exc.length ecap)) ∧ Below w.heap.size w W) := fun W hb => ⟨⟨(hb.cell (lt_of_cell e0)).trans e0, (hb.cell (lt_of_cell e1)).trans e1, (hb.cell (lt_of_cell e2)).trans e2⟩, hb0.trans (hb.mono hb0.size)⟩
  obtain ⟨va, vcp, rfl, -⟩ := id hv
  cases hgr : greatM t
  rotate_left
  · rw [hgr] at HGr
    clear hgr hg hR hC hE hv
    go_enter Tryd.func8, Tryd.ntmps8
    go_wp2_with fail
    refine HA.out.mono ?_
    rintro e w1 ⟨rfl, hb1⟩
    obtain ⟨⟨x0, x1, x2⟩, hbw1⟩ := HEE.out w1 hb1
    go_wp2_with fail
    refine (HGr.out w1 hbw1).mono ?_
    rintro e w2 ⟨rfl, hb2⟩
    go_wp2
    go_ret
    exact ⟨rfl, hbw1.trans (hb2.mono hbw1.size)⟩
  obtain ⟨hl1, hl2, hl3, hl4⟩ := great_false hgr
  have HRi : Hid (∀ W, Below w.heap.size w W → _) := fun W hb => lawRight4_any (.slice a t.rows.length cap) (.slice ca t.cls.length ccap) (.slice ea t.exc.length ecap) t W (hR.below hb) (hC.below hb) (hE.below hb) (by omega) (by omega) (by omega) (fun i hi => by have := hl4 i hi; omega)
  rw [hgr] at HGr
  by_cases hx : (chk4 t).2 = 0
  rotate_left
  · rw [decide_eq_false hx] at HRi
    clear hgr hg hR hC hE hx hl4 hv
    go_enter Tryd.func8, Tryd.ntmps8
    go_wp2_with fail
    refine HA.out.mono ?_
    rintro e w1 ⟨rfl, hb1⟩
    obtain ⟨⟨x0, x1, x2⟩, hbw1⟩ := HEE.out w1 hb1
    go_wp2_with fail
    refine (HGr.out w1 hbw1).mono ?_
    rintro e w2 ⟨rfl, hb2⟩
    have hb02 := hb1.trans (hb2.mono hb1.size)
    obtain ⟨⟨y0, y1, y2⟩, hbw2⟩ := HEE.out w2 hb02
    go_wp2_with fail
    refine (HRi.out w2 hbw2).mono ?_
    rintro e w3 ⟨rfl, hb3⟩
    go_wp2
    go_ret
    exact ⟨rfl, hbw2.trans (hb3.mono hbw2.size)⟩
  rw [decide_eq_true hx] at HRi
  obtain ⟨k1, k2, krow, kcls, kclsC, kexc, kth⟩ := right4 hx
  obtain ⟨-, -, hap, hri⟩ := right_parts kcls
  have hxr := exc_rise kexc
  by_cases hll : 20 < l.length
  · have hd : decide ((20 : Int) < (l.length : Int)) = true := decide_eq_true (by omega)
    clear hgr hg hR hC hE hx hl4 hv krow kcls kclsC kexc kth hap hri hxr
    go_enter Tryd.func8, Tryd.ntmps8
    go_wp2_with fail
    refine HA.out.mono ?_
    rintro e w1 ⟨rfl, hb1⟩
    obtain ⟨⟨x0, x1, x2⟩, hbw1⟩ := HEE.out w1 hb1
    go_wp2_with fail
    refine (HGr.out w1 hbw1).mono ?_
    rintro e w2 ⟨rfl, hb2⟩
    have hb02 := hb1.trans (hb2.mono hb1.size)
    obtain ⟨⟨y0, y1, y2⟩, hbw2⟩ := HEE.out w2 hb02
    go_wp2_with fail
    refine (HRi.out w2 hbw2).mono ?_
    rintro e w3 ⟨rfl, hb3⟩
    have hb03 := hb02.trans (hb3.mono hb02.size)
    go_wp2
    go_ret
    exact ⟨rfl, (HEE.out _ hb03).2⟩
  have hd : decide ((20 : Int) < (l.length : Int)) = false := decide_eq_false (by omega)
  have h254 := class_254 kclsC
  have hal : (apartM t.rows l).length ≤ 200000000 := by
    have h1 := apart_len krow l
    have h2 : l.length * (t.rows.length + 3) ≤ 20 * 2003 := Nat.mul_le_mul (by omega) (by omega)
    omega
  have HAL1 : Hid (∀ W, Below w.heap.size w W → _) := fun W hb => all_any a cap (.slice ca t.cls.length ccap) (.slice ea t.exc.length ecap) t.rows hcap t.cls (.slice va l.length vcp) l W (hg.below hb).hg (hR.below hb) k1 krow (hC.below hb) (by omega) hri hap (hv.below hb) hal (by omega)
  have HIS : Hid (∀ W, Below w.heap.size w W → _) := fun W hb => is_any a cap (.slice ca t.cls.length ccap) (.slice ea t.exc.length ecap) t.rows hcap t.cls (.slice va l.length vcp) l W (hg.below hb).hg (hR.below hb) k1 krow (hC.below hb) (by omega) hri hap (hv.below hb) hal (by omega)
  have HLO : Hid ((orderM (classOf t.cls) l).length = l.length) := (orderM_perm _ l).length_eq
  have HOR1 : Hid (∀ W, Below w.heap.size w W → Calls Tryd.prog 28 #[.agg #[.slice a t.rows.length cap, .slice ca t.cls.length ccap, .slice ea t.exc.length ecap], .slice va l.length vcp] W fun e w' => ∃ v', e = .returned v' ∧ w'.ownsRow W.heap.size 21 1 v' (orderM (classOf t.cls) l).length ((orderM (classOf t.cls) l).map (Value.int .i32)) ∧ Below W.heap.size W w') := fun W hb => by
    rw [HLO.out]
    exact order_any (.slice a t.rows.length cap) (.slice ca t.cls.length ccap) (.slice ea t.exc.length ecap) t.cls (.slice va l.length vcp) l W (hC.below hb) (by omega) hri hap (hv.below hb) (by omega)
  have HOR2 : Hid (∀ W, Below w.heap.size w W → Calls Tryd.prog 29 #[.agg #[.slice a t.rows.length cap, .slice ca t.cls.length ccap, .slice ea t.exc.length ecap], .slice va l.length vcp] W fun e w' => ∃ v', e = .returned v' ∧ w'.ownsRow W.heap.size 21 1 v' (orderM (classOf t.cls) l).length ((orderM (classOf t.cls) l).map (Value.int .i32)) ∧ Below W.heap.size W w') := fun W hb => by
    rw [HLO.out]
    exact refOrder_any (.slice a t.rows.length cap) (.slice ca t.cls.length ccap) (.slice ea t.exc.length ecap) t.cls (.slice va l.length vcp) l W (hC.below hb) (by omega) h254 (hv.below hb) (by omega)
  have HAL2 : Hid (∀ W, Below w.heap.size w W → _) := fun W hb => refAll_of (.slice a t.rows.length cap) (.slice ca t.cls.length ccap) (.slice ea t.exc.length ecap) t.rows (classOf t.cls) (.slice va l.length vcp) l W (hR.below hb) k1 krow (fun W2 v2 rs hb2 hr2 hrl => refOrder_any (.slice a t.rows.length cap) (.slice ca t.cls.length ccap) (.slice ea t.exc.length ecap) t.cls v2 rs W2 (hC.below (hb.trans (hb2.mono hb.size))) (by omega) h254 hr2 hrl) (hv.below hb) hal (by omega)
  have HVV : Hid (∀ W, Below w.heap.size w W → Runes W (.slice va l.length vcp) l) := fun W hb => hv.below hb
  have HLA : Hid ((orderM (classOf t.cls) (apartM t.rows l)).length = (apartM t.rows l).length) := (orderM_perm _ _).length_eq
  have HS1 : Hid (∀ W vx vy, Runes W vx (orderM (classOf t.cls) (apartM t.rows l)) → Runes W vy (orderM (classOf t.cls) (apartM t.rows l)) → _) := fun W vx vy h1 h2 => same_any vx vy (orderM (classOf t.cls) (apartM t.rows l)) W (by rw [HLA.out]; omega) h1 h2
  have HS2 : Hid (∀ W vx vy, Runes W vx (orderM (classOf t.cls) l) → Runes W vy (orderM (classOf t.cls) l) → _) := fun W vx vy h1 h2 => same_any vx vy (orderM (classOf t.cls) l) W (by rw [HLO.out]; omega) h1 h2
  have HS3 : Hid (∀ W vx vy, Runes W vx (orderM (classOf t.cls) (apartM t.rows l)) → Runes W vy l → _) := fun W vx vy h1 h2 => sameB_any vx vy (orderM (classOf t.cls) (apartM t.rows l)) l W (by rw [HLA.out]; omega) h1 h2
  rw [← HLA.out] at HAL1 HAL2
  generalize orderM (classOf t.cls) (apartM t.rows l) = resA at *
  generalize orderM (classOf t.cls) l = resO at *
  generalize (resA == l) = bq at HIS HS3
  clear hgr hg hR hC hE hx hl4 hv krow kcls kclsC kexc kth hap hri hxr h254 hal HLO HLA
  go_enter Tryd.func8, Tryd.ntmps8
  go_wp2_with fail
  refine HA.out.mono ?_
  rintro e w1 ⟨rfl, hb1⟩
  obtain ⟨⟨x0, x1, x2⟩, hbw1⟩ := HEE.out w1 hb1
  go_wp2_with fail
  refine (HGr.out w1 hbw1).mono ?_
  rintro e w2 ⟨rfl, hb2⟩
  have hb02 := hb1.trans (hb2.mono hb1.size)
  obtain ⟨⟨y0, y1, y2⟩, hbw2⟩ := HEE.out w2 hb02
  go_wp2_with fail
  refine (HRi.out w2 hbw2).mono ?_
  rintro e w3 ⟨rfl, hb3⟩
  have hb03 := hb02.trans (hb3.mono hb02.size)
  obtain ⟨⟨z0, z1, z2⟩, hbw3⟩ := HEE.out w3 hb03
  go_wp2_with fail
  refine (HAL2.out w3 hbw3).mono ?_
  rintro e w4 ⟨v4, rfl, ho4, hb4⟩
  obtain ⟨a4, c4, rfl⟩ := own_slice ho4
  have rW := Runes.own ho4
  have rW0 := rW.below ((Below.refl _ w4).drew)
  have hb04 := hb03.trans (hb4.mono hb03.size)
  have hz := HEE.out w4.drew hb04.drew
  have hzb : Below W0.heap.size W0 w4.drew := hb04.drew
  have HTR : Hid (∀ W W', Below W0.heap.size W0 W → Below W.heap.size W W' → Below W0.heap.size W0 W') := fun W W' h h' => h.trans (h'.mono h.size)
  clear x0 x1 x2 y0 y1 y2 z0 z1 z2 e0 e1 e2 HA HGr HRi HAL2 hb1 hb2 hb3 hb4 hbw1 hbw2 hbw3 hb02 hb03 ho4 rW hd hll hl1 hl2 hl3 k1 k2 hcap
  go_wp2
  go_region_held3 (fun w' => (w'.cell? ⟨w.heap.size, 0, none⟩ = some (.slice a t.rows.length cap) ∧ w'.cell? ⟨w.heap.size, 1, none⟩ = some (.slice ca t.cls.length ccap) ∧ w'.cell? ⟨w.heap.size, 2, none⟩ = some (.slice ea t.exc.length ecap))) (first | exact hz.1 | exact (HEE.out _ (by assumption)).1) (first
    | (go_at_call 22; refine (HAL1.out _ ?_).mono ?_; exact (HEE.out _ (by assumption)).2; rintro e wA ⟨vA, rfl, hoA, hbA⟩; obtain ⟨aA, cA, rfl⟩ := own_slice hoA; have rA := Runes.own hoA; have hzA := HTR.out _ _ (by assumption) hbA; have rW1 := rW0.below hbA)
    | (go_at_call 28; refine (HOR1.out _ ?_).mono ?_; exact (HEE.out _ (by assumption)).2; rintro e wC ⟨vC, rfl, hoC, hbC⟩; obtain ⟨aC, cC, rfl⟩ := own_slice hoC; have rC := Runes.own hoC; have hzC := HTR.out _ _ (by assumption) hbC; have rW3 := rW2.below hbC)
    | (go_at_call 29; refine (HOR2.out _ ?_).mono ?_; exact (HEE.out _ (by assumption)).2; rintro e wD ⟨vD, rfl, hoD, hbD⟩; obtain ⟨aD, cD, rfl⟩ := own_slice hoD; have rD := Runes.own hoD; have hzD := HTR.out _ _ (by assumption) hbD; have rW4 := rW3.below hbD; have rC2 := rC.below hbD)
    | (go_at_call 30; refine (HIS.out _ ?_).mono ?_; exact (HEE.out _ (by assumption)).2; rintro e wI ⟨rfl, hbI⟩; have hzI := HTR.out _ _ (by assumption) hbI; have rW6 := rW5.below hbI)
    | (go_at_call 16; refine (HS3.out _ _ _ rW6 (HVV.out _ (HEE.out _ (by assumption)).2)).mono ?_; rintro e wU ⟨rfl, hbU⟩; have hzU := HTR.out _ _ (by assumption) hbU)
    | (go_at_call 16; refine (HS2.out _ _ _ rC2 rD).mono ?_; rintro e wT ⟨rfl, hbT⟩; have hzT := HTR.out _ _ (by assumption) hbT; have rW5 := rW4.below hbT)
    | (go_at_call 16; refine (HS1.out _ _ _ rA rW1).mono ?_; rintro e wS ⟨rfl, hbS⟩; have hzS := HTR.out _ _ (by assumption) hbS; have rW2 := rW1.below hbS))
  all_goals
    go_wp2
    go_ret
    exact ⟨ret_bool (by simp), (HEE.out _ (by assumption)).2⟩
end Go.Proofs.YtdokdmfpoajphaaDoor

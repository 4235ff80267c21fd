/-
  What is proved here: that CompPuts answers true at every norm and list of runes.
-/
import Derived.Test.YtdokdmfpoajphaaDoorKR
import Derived.Test.YtdokdmfpoajphaaDoorKE
namespace Go.Proofs.YtdokdmfpoajphaaDoor
open Go.RowKit

set_option maxRecDepth 20000 in
set_option maxHeartbeats 16000000 in
theorem puts_any (w : World) (_ : Unit) (hg : Hg w) (a : Option Addr) (cap : Nat) (vc ve : Value) (t : Nm) (hcap : t.rows.length ≤ cap) (hR : Rows4 w (.slice a t.rows.length cap) t.rows) (hC : Tab w vc t.cls) (hE : Runes w ve t.exc) (v : Value) (l : List Int) (hv : Runes w v l) :
    Calls Tryd.prog 4 #[.agg #[.slice a t.rows.length cap, vc, ve], v] w fun e w' => e = .returned (.bool true) ∧ Below w.heap.size w w' := by
  obtain ⟨W0, hW0, hsz, hb0, e0, e1, e2⟩ := norm_box w (.slice a t.rows.length cap) vc ve
  have HA := Hid.mk' (awake5_any W0 (hg.below hb0))
  have HGr : Hid (∀ W, Below w.heap.size w W → _) := fun W hb => great_any (.slice a t.rows.length cap) vc ve t W (hR.below hb) (hC.below hb) (hE.below hb)
  obtain ⟨ca, ccap, rfl, -⟩ := id hC
  obtain ⟨ea, ecap, rfl, -⟩ := id hE
  have HEE : Hid (∀ W, Below W0.heap.size W0 W → (W.cell? ⟨w.heap.size, 0, none⟩ = some (.slice a t.rows.length cap) ∧ W.cell? ⟨w.heap.size, 1, none⟩ = some (.slice ca t.cls.length ccap) ∧ W.cell? ⟨w.heap.size, 2, none⟩ = some (.slice ea t.exc.length ecap)) ∧ Below w.heap.size w W) := fun W hb => ⟨⟨(hb.cell (lt_of_cell e0)).trans e0, (hb.cell (lt_of_cell e1)).trans e1, (hb.cell (lt_of_cell e2)).trans e2⟩, hb0.trans (hb.mono hb0.size)⟩
  obtain ⟨va, vcp, rfl, -⟩ := id hv
  cases hgr : greatM t
  rotate_left
  · rw [hgr] at HGr
    clear hgr hg hR hC hE
    go_enter Tryd.func4, Tryd.ntmps4
    go_wp2_with fail
    refine HA.out.mono ?_
    rintro e w1 ⟨rfl, hb1⟩
    obtain ⟨⟨x0, x1, x2⟩, hbw1⟩ := HEE.out w1 hb1
    go_wp2_with fail
    refine (HGr.out w1 hbw1).mono ?_
    rintro e w2 ⟨rfl, hb2⟩
    go_wp2
    go_ret
    exact ⟨rfl, hbw1.trans (hb2.mono hbw1.size)⟩
  obtain ⟨hl1, hl2, hl3, hl4⟩ := great_false hgr
  have HRi : Hid (∀ W, Below w.heap.size w W → _) := fun W hb => lawRight4_any (.slice a t.rows.length cap) (.slice ca t.cls.length ccap) (.slice ea t.exc.length ecap) t W (hR.below hb) (hC.below hb) (hE.below hb) (by omega) (by omega) (by omega) (fun i hi => by have := hl4 i hi; omega)
  rw [hgr] at HGr
  by_cases hx : (chk4 t).2 = 0
  rotate_left
  · rw [decide_eq_false hx] at HRi
    clear hgr hg hR hC hE hx hl4
    go_enter Tryd.func4, Tryd.ntmps4
    go_wp2_with fail
    refine HA.out.mono ?_
    rintro e w1 ⟨rfl, hb1⟩
    obtain ⟨⟨x0, x1, x2⟩, hbw1⟩ := HEE.out w1 hb1
    go_wp2_with fail
    refine (HGr.out w1 hbw1).mono ?_
    rintro e w2 ⟨rfl, hb2⟩
    have hb02 := hb1.trans (hb2.mono hb1.size)
    obtain ⟨⟨y0, y1, y2⟩, hbw2⟩ := HEE.out w2 hb02
    go_wp2_with fail
    refine (HRi.out w2 hbw2).mono ?_
    rintro e w3 ⟨rfl, hb3⟩
    go_wp2
    go_ret
    exact ⟨rfl, hbw2.trans (hb3.mono hbw2.size)⟩
  rw [decide_eq_true hx] at HRi
  have hri4 := right4 hx
  by_cases hll : 16 < l.length
  · have hd : decide ((16 : Int) < (l.length : Int)) = true := decide_eq_true (by omega)
    clear hgr hg hR hC hE hx hl4 hv hri4
    go_enter Tryd.func4, Tryd.ntmps4
    go_wp2_with fail
    refine HA.out.mono ?_
    rintro e w1 ⟨rfl, hb1⟩
    obtain ⟨⟨x0, x1, x2⟩, hbw1⟩ := HEE.out w1 hb1
    go_wp2_with fail
    refine (HGr.out w1 hbw1).mono ?_
    rintro e w2 ⟨rfl, hb2⟩
    have hb02 := hb1.trans (hb2.mono hb1.size)
    obtain ⟨⟨y0, y1, y2⟩, hbw2⟩ := HEE.out w2 hb02
    go_wp2_with fail
    refine (HRi.out w2 hbw2).mono ?_
    rintro e w3 ⟨rfl, hb3⟩
    have hb03 := hb02.trans (hb3.mono hb02.size)
    obtain ⟨⟨z0, z1, z2⟩, hbw3⟩ := HEE.out w3 hb03
    clear x0 x1 x2 y0 y1 y2 e0 e1 e2
    go_wp2
    go_ret
    exact ⟨rfl, hbw3⟩
  have hd : decide ((16 : Int) < (l.length : Int)) = false := decide_eq_false (by omega)
  have hN : NormAt w a cap (.slice ca t.cls.length ccap) (.slice ea t.exc.length ecap) t := ⟨hR, hC, hE, by omega, hcap, hri4⟩
  have hal : (apartM t.rows l).length ≤ 2147483 := by
    have h1 := apart_len hri4.row l
    have h2 : l.length * (t.rows.length + 3) ≤ 16 * 2003 := Nat.mul_le_mul (by omega) (by omega)
    omega
  have hcl : (compM t l).length ≤ 2147483 := by
    have := put_len (classOf t.cls) (pairM t) (decM t l)
    rw [decM_len] at this
    unfold compM; omega
  have hpl : (putM (classOf t.cls) (pairM t) l).length ≤ 2147483 := by have := put_len (classOf t.cls) (pairM t) l; omega
  have HAL1 : Hid (∀ W, Below w.heap.size w W → _) := fun W hb => compAll_any a cap (.slice ca t.cls.length ccap) (.slice ea t.exc.length ecap) t (.slice va l.length vcp) l W (hg.below hb) (hN.below hb) (hv.below hb) hal (by omega)
  have HAL2 : Hid (∀ W, Below w.heap.size w W → _) := fun W hb => refCompAll_any a cap (.slice ca t.cls.length ccap) (.slice ea t.exc.length ecap) t (.slice va l.length vcp) l W (hN.below hb) (hv.below hb) hal (by omega)
  have HIS : Hid (∀ W, Below w.heap.size w W → _) := fun W hb => compIs_any a cap (.slice ca t.cls.length ccap) (.slice ea t.exc.length ecap) t (.slice va l.length vcp) l W (hg.below hb) (hN.below hb) (hv.below hb) hal (by omega)
  have HPU1 : Hid (∀ W, Below w.heap.size w W → _) := fun W hb => put_any a cap (.slice ca t.cls.length ccap) (.slice ea t.exc.length ecap) t (.slice va l.length vcp) l W (hN.below hb) (hv.below hb) (by omega)
  have HPU2 : Hid (∀ W, Below w.heap.size w W → _) := fun W hb => refPut_any a cap (.slice ca t.cls.length ccap) (.slice ea t.exc.length ecap) t (.slice va l.length vcp) l W (hN.below hb) (hv.below hb) (by omega)
  have HVV : Hid (∀ W, Below w.heap.size w W → Runes W (.slice va l.length vcp) l) := fun W hb => hv.below hb
  have HS1 : Hid (∀ W vx vy, Runes W vx (putM (classOf t.cls) (pairM t) l) → Runes W vy (putM (classOf t.cls) (pairM t) l) → _) := fun W vx vy h1 h2 => same_any vx vy (putM (classOf t.cls) (pairM t) l) W (by omega) h1 h2
  have HS2 : Hid (∀ W vx vy, Runes W vx (compM t l) → Runes W vy (compM t l) → _) := fun W vx vy h1 h2 => same_any vx vy (compM t l) W (by omega) h1 h2
  have HS3 : Hid (∀ W vx vy, Runes W vx (compM t l) → Runes W vy l → _) := fun W vx vy h1 h2 => sameB_any vx vy (compM t l) l W (by omega) h1 h2
  generalize putM (classOf t.cls) (pairM t) l = resP at *
  generalize compM t l = resA at *
  generalize (resA == l) = bq at HIS HS3
  clear hgr hg hR hC hE hx hl4 hv hri4 hN hal hcl hpl
  go_enter Tryd.func4, Tryd.ntmps4
  go_wp2_with fail
  refine HA.out.mono ?_
  rintro e w1 ⟨rfl, hb1⟩
  obtain ⟨⟨x0, x1, x2⟩, hbw1⟩ := HEE.out w1 hb1
  go_wp2_with fail
  refine (HGr.out w1 hbw1).mono ?_
  rintro e w2 ⟨rfl, hb2⟩
  have hb02 := hb1.trans (hb2.mono hb1.size)
  obtain ⟨⟨y0, y1, y2⟩, hbw2⟩ := HEE.out w2 hb02
  go_wp2_with fail
  refine (HRi.out w2 hbw2).mono ?_
  rintro e w3 ⟨rfl, hb3⟩
  have hb03 := hb02.trans (hb3.mono hb02.size)
  obtain ⟨⟨z0, z1, z2⟩, hbw3⟩ := HEE.out w3 hb03
  clear x0 x1 x2 y0 y1 y2 e0 e1 e2
  go_wp2_with fail
  refine (HAL2.out w3 hbw3).mono ?_
  rintro e w4 ⟨v4, rfl, ho4, hb4⟩
  obtain ⟨a4, c4, rfl⟩ := own_slice ho4
  have rW := Runes.own ho4
  have rW0 := rW.below ((Below.refl _ w4).drew)
  have hb04 := hb03.trans (hb4.mono hb03.size)
  have hz := HEE.out w4.drew hb04.drew
  have hzb : Below W0.heap.size W0 w4.drew := hb04.drew
  have HTR : Hid (∀ W W', Below W0.heap.size W0 W → Below W.heap.size W W' → Below W0.heap.size W0 W') := fun W W' h h' => h.trans (h'.mono h.size)
  clear z0 z1 z2 HA HGr HRi HAL2 hb1 hb2 hb3 hb4 hbw1 hbw2 hbw3 hb02 hb03 ho4 rW hd hll hl1 hl2 hl3 hcap
  go_wp2
  go_region_held3 (fun w' => (w'.cell? ⟨w.heap.size, 0, none⟩ = some (.slice a t.rows.length cap) ∧ w'.cell? ⟨w.heap.size, 1, none⟩ = some (.slice ca t.cls.length ccap) ∧ w'.cell? ⟨w.heap.size, 2, none⟩ = some (.slice ea t.exc.length ecap))) (first | exact hz.1 | exact (HEE.out _ (by assumption)).1) (first
    | (go_at_call 17; refine (HPU1.out _ ?_).mono ?_; exact (HEE.out _ (by assumption)).2; rintro e wA ⟨vA, rfl, hoA, hbA⟩; obtain ⟨aA, cA, rfl⟩ := own_slice hoA; have rA := Runes.own hoA; have hzA := HTR.out _ _ (by assumption) hbA; have rW1 := rW0.below hbA)
    | (go_at_call 18; refine (HPU2.out _ ?_).mono ?_; exact (HEE.out _ (by assumption)).2; rintro e wC ⟨vC, rfl, hoC, hbC⟩; obtain ⟨aC, cC, rfl⟩ := own_slice hoC; have rC := Runes.own hoC; have hzC := HTR.out _ _ (by assumption) hbC; have rW2 := rW1.below hbC; have rA2 := rA.below hbC)
    | (go_at_call 19; refine (HAL1.out _ ?_).mono ?_; exact (HEE.out _ (by assumption)).2; rintro e wD ⟨vD, rfl, hoD, hbD⟩; obtain ⟨aD, cD, rfl⟩ := own_slice hoD; have rD := Runes.own hoD; have hzD := HTR.out _ _ (by assumption) hbD; have rW4 := rW3.below hbD)
    | (go_at_call 20; refine (HIS.out _ ?_).mono ?_; exact (HEE.out _ (by assumption)).2; rintro e wI ⟨rfl, hbI⟩; have hzI := HTR.out _ _ (by assumption) hbI; have rW6 := rW5.below hbI)
    | (go_at_call 16; refine (HS3.out _ _ _ rW6 (HVV.out _ (HEE.out _ (by assumption)).2)).mono ?_; rintro e wU ⟨rfl, hbU⟩; have hzU := HTR.out _ _ (by assumption) hbU)
    | (go_at_call 16; refine (HS2.out _ _ _ rD rW4).mono ?_; rintro e wT ⟨rfl, hbT⟩; have hzT := HTR.out _ _ (by assumption) hbT; have rW5 := rW4.below hbT)
    | (go_at_call 16; refine (HS1.out _ _ _ rA2 rC).mono ?_; rintro e wS ⟨rfl, hbS⟩; have hzS := HTR.out _ _ (by assumption) hbS; have rW3 := rW2.below hbS))
  all_goals
    go_wp2
    go_ret
    exact ⟨ret_bool (by simp), (HEE.out _ (by assumption)).2⟩
end Go.Proofs.YtdokdmfpoajphaaDoor

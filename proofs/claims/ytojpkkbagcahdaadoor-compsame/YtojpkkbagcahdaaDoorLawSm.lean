/-
  What is proved here: that CompSame answers true at every norm and two lists of runes.
-/
import Derived.Test.YtojpkkbagcahdaaDoorKS2
namespace Go.Proofs.YtojpkkbagcahdaaDoor
open Go.RowKit

set_option maxRecDepth 20000 in
set_option maxHeartbeats 16000000 in
theorem csame_any (w : World) (p : Nat → Addr) (hg : Gl p w) (a : Option Addr) (cap : Nat) (vc ve : Value) (t : Nm) (hcap : t.rows.length ≤ cap) (hR : Rows4 w (.slice a t.rows.length cap) t.rows) (hC : Tab w vc t.cls) (hE : Runes w ve t.exc) (vl : Value) (l : List Int) (hvl : Runes w vl l) (vm : Value) (m : List Int) (hvm : Runes w vm m) :
    Calls Tryd.prog 6 #[.agg #[.slice a t.rows.length cap, vc, ve], vl, vm] w fun e w' => e = .returned (.bool true) ∧ Below w.heap.size w w' := by
  obtain ⟨W0, hW0, hsz, hb0, e0, e1, e2⟩ := norm_box w (.slice a t.rows.length cap) vc ve
  have HA := Hid.mk' (awake5_any W0 (hg.hg.below hb0))
  have HGr : Hid (∀ W, Below w.heap.size w W → _) := fun W hb => great_any (.slice a t.rows.length cap) vc ve t W (hR.below hb) (hC.below hb) (hE.below hb)
  obtain ⟨ca, ccap, rfl, -⟩ := id hC
  obtain ⟨ea, ecap, rfl, -⟩ := id hE
  have HEE : Hid (∀ W, Below W0.heap.size W0 W → (W.cell? ⟨w.heap.size, 0, none⟩ = some (.slice a t.rows.length cap) ∧ W.cell? ⟨w.heap.size, 1, none⟩ = some (.slice ca t.cls.length ccap) ∧ W.cell? ⟨w.heap.size, 2, none⟩ = some (.slice ea t.exc.length ecap)) ∧ Below w.heap.size w W) := fun W hb => ⟨⟨(hb.cell (lt_of_cell e0)).trans e0, (hb.cell (lt_of_cell e1)).trans e1, (hb.cell (lt_of_cell e2)).trans e2⟩, hb0.trans (hb.mono hb0.size)⟩
  obtain ⟨ql, cl, rfl, -⟩ := id hvl
  obtain ⟨qm, cm, rfl, -⟩ := id hvm
  cases hgr : greatM t
  rotate_left
  · rw [hgr] at HGr
    clear hgr hg hR hC hE hvl hvm
    go_enter Tryd.func6, Tryd.ntmps6
    go_wp2_with fail
    refine HA.out.mono ?_
    rintro e w1 ⟨rfl, hb1⟩
    obtain ⟨⟨x0, x1, x2⟩, hbw1⟩ := HEE.out w1 hb1
    go_wp2_with fail
    refine (HGr.out w1 hbw1).mono ?_
    rintro e w2 ⟨rfl, hb2⟩
    go_wp2
    go_ret
    exact ⟨rfl, hbw1.trans (hb2.mono hbw1.size)⟩
  obtain ⟨hl1, hl2, hl3, hl4⟩ := great_false hgr
  rw [hgr] at HGr
  by_cases hlll : 12 < l.length
  · have hdl : decide ((12 : Int) < (l.length : Int)) = true := decide_eq_true (by omega)
    clear hgr hg hR hC hE hl4 hvl hvm
    go_enter Tryd.func6, Tryd.ntmps6
    go_wp2_with fail
    refine HA.out.mono ?_
    rintro e w1 ⟨rfl, hb1⟩
    obtain ⟨⟨x0, x1, x2⟩, hbw1⟩ := HEE.out w1 hb1
    go_wp2_with fail
    refine (HGr.out w1 hbw1).mono ?_
    rintro e w2 ⟨rfl, hb2⟩
    go_wp2
    go_ret
    exact ⟨rfl, hbw1.trans (hb2.mono hbw1.size)⟩
  have hdl : decide ((12 : Int) < (l.length : Int)) = false := decide_eq_false (by omega)
  by_cases hllm : 12 < m.length
  · have hdm : decide ((12 : Int) < (m.length : Int)) = true := decide_eq_true (by omega)
    clear hgr hg hR hC hE hl4 hvl hvm
    go_enter Tryd.func6, Tryd.ntmps6
    go_wp2_with fail
    refine HA.out.mono ?_
    rintro e w1 ⟨rfl, hb1⟩
    obtain ⟨⟨x0, x1, x2⟩, hbw1⟩ := HEE.out w1 hb1
    go_wp2_with fail
    refine (HGr.out w1 hbw1).mono ?_
    rintro e w2 ⟨rfl, hb2⟩
    go_wp2
    go_ret
    exact ⟨rfl, hbw1.trans (hb2.mono hbw1.size)⟩
  have hdm : decide ((12 : Int) < (m.length : Int)) = false := decide_eq_false (by omega)
  by_cases hx : (chk4 t).2 = 0
  rotate_left
  · have HK : Hid (∀ W, Below w.heap.size w W → _) := fun W hb => checkErr_any a cap (.slice ca t.cls.length ccap) (.slice ea t.exc.length ecap) t hcap W p (hg.below hb) (hR.below hb) (hC.below hb) (hE.below hb) hl1 hl2 hl3 hl4 hx
    clear hgr hg hR hC hE hl4 hvl hvm hx
    go_enter Tryd.func6, Tryd.ntmps6
    go_wp2_with fail
    refine HA.out.mono ?_
    rintro e w1 ⟨rfl, hb1⟩
    obtain ⟨⟨x0, x1, x2⟩, hbw1⟩ := HEE.out w1 hb1
    go_wp2_with fail
    refine (HGr.out w1 hbw1).mono ?_
    rintro e w2 ⟨rfl, hb2⟩
    have hb02 := hb1.trans (hb2.mono hb1.size)
    obtain ⟨⟨y0, y1, y2⟩, hbw2⟩ := HEE.out w2 hb02
    clear x0 x1 x2 e0 e1 e2
    go_wp2_with fail
    refine (HK.out w2 hbw2).mono ?_
    rintro e w3 ⟨b3, rfl, hb3⟩
    go_wp2
    go_ret
    exact ⟨rfl, hbw2.trans (hb3.mono hbw2.size)⟩
  have HK : Hid (∀ W, Below w.heap.size w W → _) := fun W hb => checkNil_any a cap (.slice ca t.cls.length ccap) (.slice ea t.exc.length ecap) t hcap W p (hg.below hb) (hR.below hb) (hC.below hb) (hE.below hb) hl1 hl2 hl3 hl4 hx
  have hri4 := right4 hx
  have hN : NormAt w a cap (.slice ca t.cls.length ccap) (.slice ea t.exc.length ecap) t := ⟨hR, hC, hE, by omega, hcap, hri4⟩
  have hgg := hg.hg
  have mixed : Tryd.prog.follows .mixedOrders = true := by kernel_rfl
  have hal : (apartM t.rows l).length ≤ 800 := by
    have h1 := apart_len hri4.row l
    have h2 : l.length * (t.rows.length + 3) ≤ 12 * 43 := Nat.mul_le_mul (by omega) (by omega)
    omega
  have hdl2 : (decM t l).length ≤ 800 := by rw [decM_len]; exact hal
  have hcl2 : (compM t l).length ≤ (decM t l).length := comp_len t l
  have ham : (apartM t.rows m).length ≤ 800 := by
    have h1 := apart_len hri4.row m
    have h2 : m.length * (t.rows.length + 3) ≤ 12 * 43 := Nat.mul_le_mul (by omega) (by omega)
    omega
  have hdm2 : (decM t m).length ≤ 800 := by rw [decM_len]; exact ham
  have hcm2 : (compM t m).length ≤ (decM t m).length := comp_len t m
  obtain ⟨LL, hLA, hLB⟩ := two_lists hvl hvm
  have HLA := Hid.mk' hLA
  have HLB := Hid.mk' hLB
  have HAL : Hid (∀ W v, Below w.heap.size w W → (v = Value.slice ql l.length cl ∨ v = Value.slice qm m.length cm) → _) := fun W v hb hh => decAll_any a cap (.slice ca t.cls.length ccap) (.slice ea t.exc.length ecap) t v (LL v) W (hgg.below hb) (hN.below hb) (by rcases hh with rfl | rfl; rw [hLA]; exact hvl.below hb; rw [hLB]; exact hvm.below hb) (by rcases hh with rfl | rfl; rw [hLA]; omega; rw [hLB]; omega) (by rcases hh with rfl | rfl; rw [hLA]; omega; rw [hLB]; omega)
  have HCL : Hid (∀ W v, Below w.heap.size w W → (v = Value.slice ql l.length cl ∨ v = Value.slice qm m.length cm) → _) := fun W v hb hh => compAll_any a cap (.slice ca t.cls.length ccap) (.slice ea t.exc.length ecap) t v (LL v) W (hgg.below hb) (hN.below hb) (by rcases hh with rfl | rfl; rw [hLA]; exact hvl.below hb; rw [hLB]; exact hvm.below hb) (by rcases hh with rfl | rfl; rw [hLA]; omega; rw [hLB]; omega) (by rcases hh with rfl | rfl; rw [hLA]; omega; rw [hLB]; omega)
  have HCS : Hid (∀ W, Below w.heap.size w W → _) := fun W hb => compSame_any a cap (.slice ca t.cls.length ccap) (.slice ea t.exc.length ecap) t (.slice ql l.length cl) (.slice qm m.length cm) l m W (hgg.below hb) (hN.below hb) (hvl.below hb) (hvm.below hb) (by omega) (by omega) (by omega) (by omega)
  have HS1 : Hid (∀ W vx vy, Runes W vx (decM t l) → Runes W vy (decM t m) → _) := fun W vx vy h1 h2 => sameB_any vx vy (decM t l) (decM t m) W (by omega) h1 h2
  have HS2 : Hid (∀ W vx vy, Runes W vx (compM t l) → Runes W vy (compM t m) → _) := fun W vx vy h1 h2 => sameB_any vx vy (compM t l) (compM t m) W (by omega) h1 h2
  rw [comp_same hri4] at HS2
  generalize (decM t l == decM t m) = q at HS1 HS2 HCS
  clear hal hdl2 hcl2 ham hdm2 hcm2 hLA hLB
  clear hgr hg hR hC hE hl4 hvl hvm hx hri4 hN hgg
  go_enter Tryd.func6, Tryd.ntmps6
  go_wp2_with fail
  refine HA.out.mono ?_
  rintro e w1 ⟨rfl, hb1⟩
  obtain ⟨⟨x0, x1, x2⟩, hbw1⟩ := HEE.out w1 hb1
  go_wp2_with fail
  refine (HGr.out w1 hbw1).mono ?_
  rintro e w2 ⟨rfl, hb2⟩
  have hb02 := hb1.trans (hb2.mono hb1.size)
  obtain ⟨⟨y0, y1, y2⟩, hbw2⟩ := HEE.out w2 hb02
  clear x0 x1 x2 e0 e1 e2
  go_wp2_with fail
  refine (HK.out w2 hbw2).mono ?_
  rintro e w3 ⟨rfl, hb3⟩
  have hb03 := hb02.trans (hb3.mono hb02.size)
  obtain ⟨⟨z0, z1, z2⟩, hbw3⟩ := HEE.out w3 hb03
  clear y0 y1 y2 HA HGr HK hb1 hb2 hb3 hbw1 hbw2 hb02
  have hzb : Below W0.heap.size W0 w3.drew := hb03.drew
  have HTR : Hid (∀ W W', Below W0.heap.size W0 W → Below W.heap.size W W' → Below W0.heap.size W0 W') := fun W W' h h' => h.trans (h'.mono h.size)
  clear z0 z1 z2 hbw3
  go_wp2
  go_region_held3 (fun w' => (w'.cell? ⟨w.heap.size, 0, none⟩ = some (.slice a t.rows.length cap) ∧ w'.cell? ⟨w.heap.size, 1, none⟩ = some (.slice ca t.cls.length ccap) ∧ w'.cell? ⟨w.heap.size, 2, none⟩ = some (.slice ea t.exc.length ecap))) (first | exact (HEE.out _ (by assumption)).1) (first
    | (go_at_call 12; refine (HAL.out _ _ ?_ ?_).mono ?_; exact (HEE.out _ (by assumption)).2; (first | exact .inl rfl | exact .inr rfl); (try (have rP := rA)); rintro e wA ⟨vA, rfl, hoA, hbA⟩; (first | rw [HLA.out] at hoA | rw [HLB.out] at hoA); obtain ⟨aA, cA, rfl⟩ := own_slice hoA; have rA := Runes.own hoA; have hzA := HTR.out _ _ (by assumption) hbA; (try (have rQ := rP.below hbA)))
    | (go_at_call 14; refine (HS1.out _ _ _ ?_ ?_).mono ?_; assumption; assumption; rintro e wS ⟨rfl, hbS⟩; have hzS := HTR.out _ _ (by assumption) hbS; have hzS2 := hzS.drew))
  all_goals
    clear rA
    go_wp2
    go_region_held3 (fun w' => (w'.cell? ⟨w.heap.size, 0, none⟩ = some (.slice a t.rows.length cap) ∧ w'.cell? ⟨w.heap.size, 1, none⟩ = some (.slice ca t.cls.length ccap) ∧ w'.cell? ⟨w.heap.size, 2, none⟩ = some (.slice ea t.exc.length ecap))) (first | exact (HEE.out _ (by assumption)).1) (first
      | (go_at_call 18; refine (HCS.out _ ?_).mono ?_; exact (HEE.out _ (by assumption)).2; rintro e wC ⟨rfl, hbC⟩; have hzC := HTR.out _ _ (by assumption) hbC)
      | (go_at_call 16; refine (HCL.out _ _ ?_ ?_).mono ?_; exact (HEE.out _ (by assumption)).2; (first | exact .inl rfl | exact .inr rfl); (try (have rR := rB)); rintro e wB ⟨vB, rfl, hoB, hbB⟩; (first | rw [HLA.out] at hoB | rw [HLB.out] at hoB); obtain ⟨aB, cB, rfl⟩ := own_slice hoB; have rB := Runes.own hoB; have hzB := HTR.out _ _ (by assumption) hbB; (try (have rT := rR.below hbB)))
      | (go_at_call 14; refine (HS2.out _ _ _ ?_ ?_).mono ?_; assumption; assumption; rintro e wU ⟨rfl, hbU⟩; have hzU := HTR.out _ _ (by assumption) hbU))
    all_goals
      go_wp2
      go_ret
      exact ⟨ret_bool (by simp), (HEE.out _ (by assumption)).2⟩
end Go.Proofs.YtojpkkbagcahdaaDoor

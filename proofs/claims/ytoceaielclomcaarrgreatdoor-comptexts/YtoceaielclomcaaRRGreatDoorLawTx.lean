/-
  What is proved here: that CompTexts answers true at every norm and text.
-/
import Derived.Test.YtoceaielclomcaaRRGreatDoorN1
import Derived.Test.YtoceaielclomcaaRRGreatDoorUM
import Derived.Test.YtoceaielclomcaaRRGreatDoorKR
import Derived.Test.YtoceaielclomcaaRRGreatDoorKE
namespace Go.Proofs.YtoceaielclomcaaRRGreatDoor
open Go.RowKit

theorem flt_below {w w' : World} {v : Value} {B : Nat} {a : Int} {p : Addr} (h : Flt w v B a p) (hb : Below w.heap.size w w') : Flt w' v B a p := by
  obtain ⟨b, h1, h2, h3, h4⟩ := h
  exact ⟨b, h1, h2, (hb.cell (p := ⟨b, 0, none⟩) (lt_of_cell h3)).trans h3, (hb.cell (p := ⟨b, 1, none⟩) (lt_of_cell h4)).trans h4⟩
theorem form_pos (r : Int) : 1 ≤ (Utf.form r).length := by unfold Utf.form; (repeat' split) <;> simp
theorem len_forms (rs : List Int) : rs.length ≤ (rs.flatMap Utf.form).length := by
  induction rs with
  | nil => simp
  | cons r rs ih => have := form_pos r; simp only [List.flatMap_cons, List.length_append, List.length_cons]; omega
theorem dec_parts (s : ByteArray) {rs : List Int} (h : Utf.dec s.data.toList 0 = (rs, 0, 0)) : (∀ r ∈ rs, 0 < Utf.width r) ∧ rs.length ≤ s.size := by
  obtain ⟨h1, h2⟩ := Utf.dec_back _ _ _ _ (Nat.le_refl _) h
  refine ⟨h1, ?_⟩
  have h3 := len_forms rs
  have h4 := congrArg List.length h2
  rw [List.length_map] at h4
  have e : s.data.toList.length = s.size := rfl
  omega
theorem dec_cases (s : ByteArray) : (∃ rs, Utf.dec s.data.toList 0 = (rs, 0, 0)) ∨ ∃ k c, Utf.dec s.data.toList 0 = ([], k, c) ∧ (c = 1 ∨ c = 2) := by
  have hb := Utf.dec_both s.data.toList 0
  rcases Utf.dec_codes _ s.data.toList 0 (Nat.le_refl _) with h | h | h
  · exact .inl ⟨_, Prod.ext rfl (Prod.ext (hb.1 h) h)⟩
  · exact .inr ⟨_, _, Prod.ext (hb.2 (by omega)) (Prod.ext rfl rfl), .inl h⟩
  · exact .inr ⟨_, _, Prod.ext (hb.2 (by omega)) (Prod.ext rfl rfl), .inr h⟩

set_option maxRecDepth 20000 in
set_option maxHeartbeats 16000000 in
theorem ctexts_any (w : World) (p : Nat → Addr) (hg : Gl p w) (a : Option Addr) (cap : Nat) (vc ve : Value) (t : Nm) (hcap : t.rows.length ≤ cap) (hR : Rows4 w (.slice a t.rows.length cap) t.rows) (hC : Tab w vc t.cls) (hE : Runes w ve t.exc) (s : ByteArray) (hsm : s.size ≤ maxLen) :
    Calls Tryz.prog 5 #[.agg #[.slice a t.rows.length cap, vc, ve], .string s] w fun e w' => e = .returned (.bool true) ∧ Below w.heap.size w w' := by
  unfold maxLen at hsm
  obtain ⟨W0, hW0, hsz, hb0, e0, e1, e2⟩ := norm_box w (.slice a t.rows.length cap) vc ve
  have HA := Hid.mk' (awake5_any W0 (hg.below hb0).hg)
  have HGr : Hid (∀ W, Below w.heap.size w W → _) := fun W hb => great_any (.slice a t.rows.length cap) vc ve t W (hR.below hb) (hC.below hb) (hE.below hb)
  obtain ⟨ca, ccap, rfl, -⟩ := id hC
  obtain ⟨ea, ecap, rfl, -⟩ := id hE
  have HEE : Hid (∀ W, Below W0.heap.size W0 W → (W.cell? ⟨w.heap.size, 0, none⟩ = some (.slice a t.rows.length cap) ∧ W.cell? ⟨w.heap.size, 1, none⟩ = some (.slice ca t.cls.length ccap) ∧ W.cell? ⟨w.heap.size, 2, none⟩ = some (.slice ea t.exc.length ecap)) ∧ Below w.heap.size w W) := fun W hb => ⟨⟨(hb.cell (lt_of_cell e0)).trans e0, (hb.cell (lt_of_cell e1)).trans e1, (hb.cell (lt_of_cell e2)).trans e2⟩, hb0.trans (hb.mono hb0.size)⟩
  cases hgr : greatM t
  rotate_left
  · rw [hgr] at HGr
    clear hgr hg hR hC hE
    go_enter Tryz.func5, Tryz.ntmps5
    go_wp2_with fail
    refine HA.out.mono ?_
    rintro e w1 ⟨rfl, hb1⟩
    obtain ⟨⟨x0, x1, x2⟩, hbw1⟩ := HEE.out w1 hb1
    go_wp2_with fail
    refine (HGr.out w1 hbw1).mono ?_
    rintro e w2 ⟨rfl, hb2⟩
    go_wp2
    go_ret
    exact ⟨rfl, hbw1.trans (hb2.mono hbw1.size)⟩
  obtain ⟨hl1, hl2, hl3, hl4⟩ := great_false hgr
  have HRi : Hid (∀ W, Below w.heap.size w W → _) := fun W hb => lawRight4_any (.slice a t.rows.length cap) (.slice ca t.cls.length ccap) (.slice ea t.exc.length ecap) t W (hR.below hb) (hC.below hb) (hE.below hb) (by omega) (by omega) (by omega) (fun i hi => by have := hl4 i hi; omega)
  rw [hgr] at HGr
  by_cases hx : (chk4 t).2 = 0
  rotate_left
  · rw [decide_eq_false hx] at HRi
    clear hgr hg hR hC hE hx hl4
    go_enter Tryz.func5, Tryz.ntmps5
    go_wp2_with fail
    refine HA.out.mono ?_
    rintro e w1 ⟨rfl, hb1⟩
    obtain ⟨⟨x0, x1, x2⟩, hbw1⟩ := HEE.out w1 hb1
    go_wp2_with fail
    refine (HGr.out w1 hbw1).mono ?_
    rintro e w2 ⟨rfl, hb2⟩
    have hb02 := hb1.trans (hb2.mono hb1.size)
    obtain ⟨⟨y0, y1, y2⟩, hbw2⟩ := HEE.out w2 hb02
    go_wp2_with fail
    refine (HRi.out w2 hbw2).mono ?_
    rintro e w3 ⟨rfl, hb3⟩
    go_wp2
    go_ret
    exact ⟨rfl, hbw2.trans (hb3.mono hbw2.size)⟩
  rw [decide_eq_true hx] at HRi
  have hri4 := right4 hx
  by_cases hll : 40 < s.size
  · have hd : decide ((40 : Int) < (s.size : Int)) = true := decide_eq_true (by omega)
    clear hgr hg hR hC hE hx hl4 hri4
    go_enter Tryz.func5, Tryz.ntmps5
    go_wp2_with fail
    refine HA.out.mono ?_
    rintro e w1 ⟨rfl, hb1⟩
    obtain ⟨⟨x0, x1, x2⟩, hbw1⟩ := HEE.out w1 hb1
    go_wp2_with fail
    refine (HGr.out w1 hbw1).mono ?_
    rintro e w2 ⟨rfl, hb2⟩
    have hb02 := hb1.trans (hb2.mono hb1.size)
    obtain ⟨⟨y0, y1, y2⟩, hbw2⟩ := HEE.out w2 hb02
    go_wp2_with fail
    refine (HRi.out w2 hbw2).mono ?_
    rintro e w3 ⟨rfl, hb3⟩
    have hb03 := hb02.trans (hb3.mono hb02.size)
    obtain ⟨⟨z0, z1, z2⟩, hbw3⟩ := HEE.out w3 hb03
    clear x0 x1 x2 y0 y1 y2 e0 e1 e2
    go_wp2
    go_ret
    exact ⟨rfl, hbw3⟩
  have hdd : decide ((40 : Int) < (s.size : Int)) = false := decide_eq_false (by omega)
  have hN : NormAt w a cap (.slice ca t.cls.length ccap) (.slice ea t.exc.length ecap) t := ⟨hR, hC, hE, by omega, hcap, hri4⟩
  have HTR : Hid (∀ W W', Below W0.heap.size W0 W → Below W.heap.size W W' → Below W0.heap.size W0 W') := fun W W' h h' => h.trans (h'.mono h.size)
  rcases dec_cases s with ⟨rs, hd⟩ | ⟨k, c, hd, hc⟩
  · obtain ⟨hw, hlr⟩ := dec_parts s hd
    have hal : (apartM t.rows rs).length ≤ 2147483 := by
      have h1 := apart_len hri4.row rs
      have h2 : rs.length * (t.rows.length + 3) ≤ 40 * 43 := Nat.mul_le_mul (by omega) (by omega)
      omega
    have hcl : (compM t rs).length ≤ 268435456 := by
      have := put_len (classOf t.cls) (pairM t) (decM t rs)
      rw [decM_len] at this
      unfold compM; omega
    have hcr := comp_right hri4.row hw
    have HTX : Hid (∀ W, Below w.heap.size w W → _) := fun W hb => compText_ok a cap (.slice ca t.cls.length ccap) (.slice ea t.exc.length ecap) t s rs W p (hg.below hb) (hN.below hb) (by omega) hd hal (by omega) hcl hcr
    have HRX : Hid (∀ W, Below w.heap.size w W → _) := fun W hb => refCompText_ok a cap (.slice ca t.cls.length ccap) (.slice ea t.exc.length ecap) t s rs W (hN.below hb) (by omega) hd hal (by omega) hcl hcr
    generalize strOfNums ((compM t rs).flatMap Utf.form) = res at HTX HRX
    clear hgr hg hR hC hE hx hl4 hri4 hN hal hcl hcr hd hw hlr
    go_enter Tryz.func5, Tryz.ntmps5
    go_wp2_with fail
    refine HA.out.mono ?_
    rintro e w1 ⟨rfl, hb1⟩
    obtain ⟨⟨x0, x1, x2⟩, hbw1⟩ := HEE.out w1 hb1
    go_wp2_with fail
    refine (HGr.out w1 hbw1).mono ?_
    rintro e w2 ⟨rfl, hb2⟩
    have hb02 := hb1.trans (hb2.mono hb1.size)
    obtain ⟨⟨y0, y1, y2⟩, hbw2⟩ := HEE.out w2 hb02
    go_wp2_with fail
    refine (HRi.out w2 hbw2).mono ?_
    rintro e w3 ⟨rfl, hb3⟩
    have hb03 := hb02.trans (hb3.mono hb02.size)
    obtain ⟨⟨z0, z1, z2⟩, hbw3⟩ := HEE.out w3 hb03
    clear x0 x1 x2 y0 y1 y2 e0 e1 e2
    go_wp2_with fail
    refine (HTX.out w3 hbw3).mono ?_
    rintro e w4 ⟨rfl, hb4⟩
    have hb04 := hb03.trans (hb4.mono hb03.size)
    obtain ⟨⟨u0, u1, u2⟩, hbw4⟩ := HEE.out w4 hb04
    clear z0 z1 z2
    go_wp2_with fail
    refine (HRX.out w4 hbw4).mono ?_
    rintro e w5 ⟨rfl, hb5⟩
    have hb05 := hb04.trans (hb5.mono hb04.size)
    have hbw5 := (HEE.out w5 hb05).2
    clear u0 u1 u2 HA HGr HRi HTX HRX hb1 hb2 hb3 hb4 hb5 hbw1 hbw2 hbw3 hbw4 hb02 hb03 hb04
    go_wp2_with (first | (go_at_call 12; refine (lawIs_none _ _).mono ?_; rintro e w6 ⟨rfl, rfl⟩))
    go_ret
    exact ⟨ret_bool (by simp), hbw5⟩
  · have hcz : c ≠ 0 := by omega
    have HTX : Hid (∀ W, Below w.heap.size w W → _) := fun W hb => compText_err a cap (.slice ca t.cls.length ccap) (.slice ea t.exc.length ecap) t s k c W p (hg.below hb) (hN.below hb) (by omega) hd hcz
    have HRX : Hid (∀ W, Below w.heap.size w W → _) := fun W hb => refCompText_err a cap (.slice ca t.cls.length ccap) (.slice ea t.exc.length ecap) t s k c W (hN.below hb) (by omega) hd hcz
    have HI : Hid (∀ W v B, Below w.heap.size w W → Flt W v B k (p c) → _) := fun W v B hb hf => lawIs_fault v B k c W p (hg.below hb) (hg.below hb).et (by unfold Code; omega) hf
    clear hgr hg hR hC hE hx hl4 hri4 hN hd hc hcz
    go_enter Tryz.func5, Tryz.ntmps5
    go_wp2_with fail
    refine HA.out.mono ?_
    rintro e w1 ⟨rfl, hb1⟩
    obtain ⟨⟨x0, x1, x2⟩, hbw1⟩ := HEE.out w1 hb1
    go_wp2_with fail
    refine (HGr.out w1 hbw1).mono ?_
    rintro e w2 ⟨rfl, hb2⟩
    have hb02 := hb1.trans (hb2.mono hb1.size)
    obtain ⟨⟨y0, y1, y2⟩, hbw2⟩ := HEE.out w2 hb02
    go_wp2_with fail
    refine (HRi.out w2 hbw2).mono ?_
    rintro e w3 ⟨rfl, hb3⟩
    have hb03 := hb02.trans (hb3.mono hb02.size)
    obtain ⟨⟨z0, z1, z2⟩, hbw3⟩ := HEE.out w3 hb03
    clear x0 x1 x2 y0 y1 y2 e0 e1 e2
    go_wp2_with fail
    refine (HTX.out w3 hbw3).mono ?_
    rintro e w4 ⟨b, rfl, hf4, hb4⟩
    have hb04 := hb03.trans (hb4.mono hb03.size)
    obtain ⟨⟨u0, u1, u2⟩, hbw4⟩ := HEE.out w4 hb04
    have HF4 := Hid.mk' hf4
    clear z0 z1 z2 hf4
    go_wp2_with fail
    refine (HRX.out w4 hbw4).mono ?_
    rintro e w5 ⟨rfl, hb5⟩
    have hb05 := hb04.trans (hb5.mono hb04.size)
    have hbw5 := (HEE.out w5 hb05).2
    have HIZ := Hid.mk' (HI.out w5 _ _ hbw5 (flt_below HF4.out hb5))
    clear u0 u1 u2 HA HGr HRi HTX HRX hb1 hb2 hb3 hb4 hb5 hbw1 hbw2 hbw3 hbw4 hb02 hb03 hb04 HI HF4
    go_wp2_with (first | (go_at_call 12; refine HIZ.out.mono ?_; rintro e w6 ⟨rfl, hb6⟩))
    go_ret
    exact ⟨ret_bool (by simp), hbw5.trans (hb6.mono hbw5.size)⟩
end Go.Proofs.YtoceaielclomcaaRRGreatDoor

/-
  What is proved here: that DecompOnes answers true at every norm, rune and number.
-/
import Derived.Test.YtjnbkcdjmhbkcaaDoorE4
import Derived.Test.YtjnbkcdjmhbkcaaDoorE5
import Derived.Test.YtjnbkcdjmhbkcaaDoorB5
namespace Go.Proofs.YtjnbkcdjmhbkcaaDoor
open Go.RowKit

set_option maxRecDepth 20000 in
set_option maxHeartbeats 16000000 in
theorem ones_any (w : World) (p : Nat → Addr) (hg : Gl p w) (a : Option Addr) (cap : Nat) (vc ve : Value) (t : Nm) (hcap : t.rows.length ≤ cap) (hR : Rows4 w (.slice a t.rows.length cap) t.rows) (hC : Tab w vc t.cls) (hE : Runes w ve t.exc) (r : Int) (row : Int) :
    Calls Tryd.prog 4 #[.agg #[.slice a t.rows.length cap, vc, ve], .int .i32 r, .int .i64 row] w fun e w' => e = .returned (.bool true) ∧ Below w.heap.size w w' := by
  obtain ⟨W0, hW0, hsz, hb0, e0, e1, e2⟩ := norm_box w (.slice a t.rows.length cap) vc ve
  have HA := Hid.mk' (awake4_any W0 p (hg.below hb0))
  have HGr : Hid (∀ W, Below w.heap.size w W → _) := fun W hb => great_any (.slice a t.rows.length cap) vc ve t W (hR.below hb) (hC.below hb) (hE.below hb)
  obtain ⟨ca, ccap, rfl, -⟩ := id hC
  obtain ⟨ea, ecap, rfl, -⟩ := id hE
  have HEE : Hid (∀ W, Below W0.heap.size W0 W → (W.cell? ⟨w.heap.size, 0, none⟩ = some (.slice a t.rows.length cap) ∧ W.cell? ⟨w.heap.size, 1, none⟩ = some (.slice ca t.cls.length ccap) ∧ W.cell? ⟨w.heap.size, 2, none⟩ = some (.slice ea t.exc.length ecap)) ∧ Below w.heap.size w W) := fun W hb => ⟨⟨(hb.cell (lt_of_cell e0)).trans e0, (hb.cell (lt_of_cell e1)).trans e1, (hb.cell (lt_of_cell e2)).trans e2⟩, hb0.trans (hb.mono hb0.size)⟩
  cases hgr : greatM t
  rotate_left
  · rw [hgr] at HGr
    clear hgr hg hR hC hE
    go_enter Tryd.func4, Tryd.ntmps4
    go_wp2_with fail
    refine HA.out.mono ?_
    rintro e w1 ⟨rfl, hb1⟩
    obtain ⟨⟨x0, x1, x2⟩, hbw1⟩ := HEE.out w1 hb1
    go_wp2_with fail
    refine (HGr.out w1 hbw1).mono ?_
    rintro e w2 ⟨rfl, hb2⟩
    go_wp2
    go_ret
    exact ⟨rfl, hbw1.trans (hb2.mono hbw1.size)⟩
  obtain ⟨hl1, hl2, hl3, hl4⟩ := great_false hgr
  have HRi : Hid (∀ W, Below w.heap.size w W → _) := fun W hb => lawRight4_any (.slice a t.rows.length cap) (.slice ca t.cls.length ccap) (.slice ea t.exc.length ecap) t W (hR.below hb) (hC.below hb) (hE.below hb) (by omega) (by omega) (by omega) (fun i hi => by have := hl4 i hi; omega)
  rw [hgr] at HGr
  by_cases hx : (chk4 t).2 = 0
  rotate_left
  · rw [decide_eq_false hx] at HRi
    clear hgr hg hR hC hE hx hl4
    go_enter Tryd.func4, Tryd.ntmps4
    go_wp2_with fail
    refine HA.out.mono ?_
    rintro e w1 ⟨rfl, hb1⟩
    obtain ⟨⟨x0, x1, x2⟩, hbw1⟩ := HEE.out w1 hb1
    go_wp2_with fail
    refine (HGr.out w1 hbw1).mono ?_
    rintro e w2 ⟨rfl, hb2⟩
    have hb02 := hb1.trans (hb2.mono hb1.size)
    obtain ⟨⟨y0, y1, y2⟩, hbw2⟩ := HEE.out w2 hb02
    go_wp2_with fail
    refine (HRi.out w2 hbw2).mono ?_
    rintro e w3 ⟨rfl, hb3⟩
    go_wp2
    go_ret
    exact ⟨rfl, hbw2.trans (hb3.mono hbw2.size)⟩
  rw [decide_eq_true hx] at HRi
  obtain ⟨k1, k2, krow, kcls, kclsC, kexc, kth⟩ := right4 hx
  obtain ⟨-, -, hap, hri⟩ := right_parts kcls
  have hxr := exc_rise kexc
  have HO1 : Hid (∀ W, Below w.heap.size w W → _) := fun W hb => one_any a cap (.slice ca t.cls.length ccap) (.slice ea t.exc.length ecap) t.rows hcap r W p (hg.below hb) (hR.below hb) k1 krow
  have HO2 : Hid (∀ W, Below w.heap.size w W → _) := fun W hb => refOne_any (.slice a t.rows.length cap) (.slice ca t.cls.length ccap) (.slice ea t.exc.length ecap) t.rows k1 krow r W (hR.below hb)
  have HK1 : Hid (∀ W, Below w.heap.size w W → _) := fun W hb => class_any (.slice a t.rows.length cap) (.slice ca t.cls.length ccap) (.slice ea t.exc.length ecap) t.cls r W (hC.below hb) (by omega) hri hap
  have HK2 : Hid (∀ W, Below w.heap.size w W → _) := fun W hb => refClass_any (.slice a t.rows.length cap) (.slice ca t.cls.length ccap) (.slice ea t.exc.length ecap) t.cls r W (hC.below hb) (by omega)
  obtain ⟨cb, HM1, HM2⟩ : ∃ cb : Bool, Hid (∀ W, Below w.heap.size w W → Calls Tryd.prog 19 #[.agg #[.slice a t.rows.length cap, .slice ca t.cls.length ccap, .slice ea t.exc.length ecap], .int .i64 row] W fun e w' => e = .returned (.bool cb) ∧ Below W.heap.size W w') ∧ Hid (∀ W, Below w.heap.size w W → Calls Tryd.prog 20 #[.agg #[.slice a t.rows.length cap, .slice ca t.cls.length ccap, .slice ea t.exc.length ecap], .int .i64 row] W fun e w' => e = .returned (.bool cb) ∧ Below W.heap.size W w') := by
    by_cases hrow : row < 0 ∨ (t.rows.length : Int) ≤ row
    · exact ⟨false, fun W hb => composes_out _ _ _ t.rows row W (hR.below hb) (by omega) hrow, fun W hb => refComposes_out _ _ _ t.rows row W (hR.below hb) (by omega) hrow⟩
    · obtain ⟨i, rfl⟩ : ∃ i : Nat, row = i := ⟨row.toNat, by omega⟩
      exact ⟨composesM t i, fun W hb => composes_any _ _ _ t i W (hR.below hb) (hC.below hb) (hE.below hb) (by omega) (by omega) (by omega) hri hap hxr (by omega), fun W hb => refComposes_any _ _ _ t i W (hR.below hb) (hC.below hb) (hE.below hb) (by omega) (by omega) (by omega) (by omega)⟩
  have HLN : Hid ((oneM t.rows r).length ≤ 268435456) := by
    show _ ≤ _
    have := oneM_len krow r
    omega
  have HSM : Hid (∀ W va vb, Runes W va (oneM t.rows r) → Runes W vb (oneM t.rows r) → _) := fun W va vb ha hb => same_any va vb (oneM t.rows r) W HLN.out ha hb
  have HROW : Hid (∀ W v, W.ownsRow 0 21 1 v (oneM t.rows r).length ((oneM t.rows r).map (Value.int .i32)) → Runes W v (oneM t.rows r)) := fun W v h => Runes.own h
  generalize oneM t.rows r = res at *
  generalize classOf t.cls r = cl at *
  clear hgr hg hR hC hE hx hl4 krow kcls kclsC kexc kth hap hri hxr
  go_enter Tryd.func4, Tryd.ntmps4
  go_wp2_with fail
  refine HA.out.mono ?_
  rintro e w1 ⟨rfl, hb1⟩
  obtain ⟨⟨x0, x1, x2⟩, hbw1⟩ := HEE.out w1 hb1
  go_wp2_with fail
  refine (HGr.out w1 hbw1).mono ?_
  rintro e w2 ⟨rfl, hb2⟩
  have hb02 := hb1.trans (hb2.mono hb1.size)
  obtain ⟨⟨y0, y1, y2⟩, hbw2⟩ := HEE.out w2 hb02
  go_wp2_with fail
  refine (HRi.out w2 hbw2).mono ?_
  rintro e w3 ⟨rfl, hb3⟩
  have hb03 := hb02.trans (hb3.mono hb02.size)
  have hz := HEE.out w3.drew hb03.drew
  have hzb : Below W0.heap.size W0 w3.drew := hb03.drew
  have HTR : Hid (∀ W W', Below W0.heap.size W0 W → Below W.heap.size W W' → Below W0.heap.size W0 W') := fun W W' h h' => h.trans (h'.mono h.size)
  clear x0 x1 x2 y0 y1 y2 e0 e1 e2 HA HGr HRi hb1 hb2 hb3 hbw1 hbw2 hb02
  go_wp2
  go_region_held3 (fun w' => (w'.cell? ⟨w.heap.size, 0, none⟩ = some (.slice a t.rows.length cap) ∧ w'.cell? ⟨w.heap.size, 1, none⟩ = some (.slice ca t.cls.length ccap) ∧ w'.cell? ⟨w.heap.size, 2, none⟩ = some (.slice ea t.exc.length ecap))) (first | exact hz.1 | exact (HEE.out _ (by assumption)).1) (first
    | (go_at_call 15; refine (HO1.out _ ?_).mono ?_; exact (HEE.out _ (by assumption)).2; rintro e wA ⟨vA, rfl, hoA, hbA⟩; obtain ⟨aA, cA, rfl⟩ := own_slice hoA; have rA := Runes.own hoA; have hzA := HTR.out _ _ (by assumption) hbA; try (have rB' := rB.below hbA))
    | (go_at_call 16; refine (HO2.out _ ?_).mono ?_; exact (HEE.out _ (by assumption)).2; rintro e wB ⟨vB, rfl, hoB, hbB⟩; obtain ⟨aB, cB, rfl⟩ := own_slice hoB; have rB := Runes.own hoB; have hzB := HTR.out _ _ (by assumption) hbB; try (have rA' := rA.below hbB))
    | (go_at_call 14; refine (HSM.out _ _ _ ?_ ?_).mono ?_; assumption; assumption; rintro e wS ⟨rfl, hbS⟩; have hzS := HTR.out _ _ (by assumption) hbS)
    | (go_at_call 17; refine (HK1.out _ ?_).mono ?_; exact (HEE.out _ (by assumption)).2; rintro e wS ⟨rfl, hbS⟩; have hzS := HTR.out _ _ (by assumption) hbS)
    | (go_at_call 18; refine (HK2.out _ ?_).mono ?_; exact (HEE.out _ (by assumption)).2; rintro e wS ⟨rfl, hbS⟩; have hzS := HTR.out _ _ (by assumption) hbS)
    | (go_at_call 19; refine (HM1.out _ ?_).mono ?_; exact (HEE.out _ (by assumption)).2; rintro e wS ⟨rfl, hbS⟩; have hzS := HTR.out _ _ (by assumption) hbS)
    | (go_at_call 20; refine (HM2.out _ ?_).mono ?_; exact (HEE.out _ (by assumption)).2; rintro e wS ⟨rfl, hbS⟩; have hzS := HTR.out _ _ (by assumption) hbS))
  all_goals
    go_wp2
    go_ret
    exact ⟨ret_bool (by simp), (HEE.out _ (by assumption)).2⟩
end Go.Proofs.YtjnbkcdjmhbkcaaDoor

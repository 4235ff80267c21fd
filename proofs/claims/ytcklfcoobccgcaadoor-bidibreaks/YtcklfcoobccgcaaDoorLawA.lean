/-
  What is proved here: that BidiBreaks answers true at any properties and any runes.
-/
import Derived.Test.YtcklfcoobccgcaaDoorD8
import Derived.Test.YtcklfcoobccgcaaDoorD9
import Derived.Test.YtcklfcoobccgcaaDoorL4
namespace Go.Proofs.YtcklfcoobccgcaaDoor
open Go.RowKit Go.Shelf

set_option maxRecDepth 20000 in
set_option maxHeartbeats 16000000 in
theorem breaks9_any (w : World) (p : Nat → Addr) (hge : Gl p w ∧ Et w) (a : Nat → Option Addr) (c : Nat → Nat) (t : Nat → List Rg) (hT : PT w a c t) (v : Value) (l : List Int) (hv : Runes w v l) :
    Calls Tryd.prog 3 #[PV a c t, v] w fun e w' => e = .returned (.bool true) ∧ Below w.heap.size w w' := by
  obtain ⟨hg, het⟩ := hge
  obtain ⟨va, vcap, rfl, -⟩ := id hv
  obtain ⟨W0, hW0, hsz0, hb0, hp⟩ := prop_box w a c t
  have HA := Hid.mk' (awake9_any W0)
  have HGr : Hid (∀ W, _) := fun W => greatP_any a c t W
  have HB : Hid (∀ W, Below W0.heap.size W0 W → Below w.heap.size w W) := fun W hb => hb0.trans (hb.mono hb0.size)
  have HP : Hid (∀ W, Below W0.heap.size W0 W → (W.cell? ⟨w.heap.size, 0, none⟩ = some (.slice (a 0) (t 0).length (c 0)) ∧ W.cell? ⟨w.heap.size, 1, none⟩ = some (.slice (a 1) (t 1).length (c 1)) ∧ W.cell? ⟨w.heap.size, 2, none⟩ = some (.slice (a 2) (t 2).length (c 2)) ∧ W.cell? ⟨w.heap.size, 3, none⟩ = some (.slice (a 3) (t 3).length (c 3)) ∧ W.cell? ⟨w.heap.size, 4, none⟩ = some (.slice (a 4) (t 4).length (c 4)) ∧ W.cell? ⟨w.heap.size, 5, none⟩ = some (.slice (a 5) (t 5).length (c 5)) ∧ W.cell? ⟨w.heap.size, 6, none⟩ = some (.slice (a 6) (t 6).length (c 6)) ∧ W.cell? ⟨w.heap.size, 7, none⟩ = some (.slice (a 7) (t 7).length (c 7)) ∧ W.cell? ⟨w.heap.size, 8, none⟩ = some (.slice (a 8) (t 8).length (c 8)) ∧ W.cell? ⟨w.heap.size, 9, none⟩ = some (.slice (a 9) (t 9).length (c 9)) ∧ W.cell? ⟨w.heap.size, 10, none⟩ = some (.slice (a 10) (t 10).length (c 10)))) := fun W hb => by
    have q := hp.below hb
    exact ⟨q 0 (by omega), q 1 (by omega), q 2 (by omega), q 3 (by omega), q 4 (by omega), q 5 (by omega), q 6 (by omega), q 7 (by omega), q 8 (by omega), q 9 (by omega), q 10 (by omega)⟩
  have HT : Hid (∀ W W', Below W0.heap.size W0 W → Below W.heap.size W W' → Below W0.heap.size W0 W') := fun W W' h1 h2 => h1.trans (h2.mono h1.size)
  cases hgr : great7 t
  rotate_left
  · rw [hgr] at HGr
    unfold PV at HGr ⊢
    clear hgr hg het hT hv hb0 hp
    go_enter Tryd.func3, Tryd.ntmps3
    go_wp2_with fail
    refine HA.out.mono ?_
    rintro e w1 ⟨rfl, hb1⟩
    obtain ⟨x0, x1, x2, x3, x4, x5, x6, x7, x8, x9, x10⟩ := HP.out w1 hb1
    clear HA
    go_wp2_with fail
    refine (HGr.out w1).mono ?_
    rintro e w2 ⟨rfl, hb2⟩
    have HB2 := Hid.mk' (HB.out _ (HT.out _ _ hb1 hb2))
    clear HGr x0 x1 x2 x3 x4 x5 x6 x7 x8 x9 x10 hb1 hb2
    go_wp2
    go_ret
    exact ⟨rfl, HB2.out⟩
  rw [hgr] at HGr
  have hl7 := great7_false hgr
  have HRt : Hid (∀ W, Below W0.heap.size W0 W → _) := fun W hb => right7L_any a c t W ((hT.below hb0).below hb) (fun i hi => by have := hl7 i hi; omega)
  clear hgr
  by_cases hr : (chk7 t).2 = 0
  rotate_left
  · rw [decide_eq_false hr] at HRt
    unfold PV at HGr HRt ⊢
    clear hr hg het hT hv hb0 hp hl7
    go_enter Tryd.func3, Tryd.ntmps3
    go_wp2_with fail
    refine HA.out.mono ?_
    rintro e w1 ⟨rfl, hb1⟩
    obtain ⟨x0, x1, x2, x3, x4, x5, x6, x7, x8, x9, x10⟩ := HP.out w1 hb1
    clear HA
    go_wp2_with fail
    refine (HGr.out w1).mono ?_
    rintro e w2 ⟨rfl, hb2⟩
    have hz2 := HT.out _ _ hb1 hb2
    have HR2 := Hid.mk' (HRt.out w2 hz2)
    clear HGr HRt x0 x1 x2 x3 x4 x5 x6 x7 x8 x9 x10 hb1 hb2
    obtain ⟨x0, x1, x2, x3, x4, x5, x6, x7, x8, x9, x10⟩ := HP.out w2 hz2
    go_wp2_with fail
    refine HR2.out.mono ?_
    rintro e w3 ⟨rfl, hb3⟩
    have HB3 := Hid.mk' (HB.out _ (HT.out _ _ hz2 hb3))
    clear HR2 x0 x1 x2 x3 x4 x5 x6 x7 x8 x9 x10 hb3 hz2
    go_wp2
    go_ret
    exact ⟨rfl, HB3.out⟩
  rw [decide_eq_true hr] at HRt
  have hok : Ok (t 9) := right7_ok hr 9 (by omega)
  have hdirs : Dirs (dirsM (t 9) l) := dirsM_dirs hr l
  by_cases h20 : 20 < l.length
  · have hdz : decide ((20 : Int) < (l.length : Int)) = true := decide_eq_true (by omega)
    have hd : decide (20 < l.length) = true := decide_eq_true h20
    unfold PV at HGr HRt ⊢
    clear hr hg het hT hv hb0 hp hl7 hok hdirs h20
    go_enter Tryd.func3, Tryd.ntmps3
    go_wp2_with fail
    refine HA.out.mono ?_
    rintro e w1 ⟨rfl, hb1⟩
    obtain ⟨x0, x1, x2, x3, x4, x5, x6, x7, x8, x9, x10⟩ := HP.out w1 hb1
    clear HA
    go_wp2_with fail
    refine (HGr.out w1).mono ?_
    rintro e w2 ⟨rfl, hb2⟩
    have hz2 := HT.out _ _ hb1 hb2
    have HR2 := Hid.mk' (HRt.out w2 hz2)
    clear HGr HRt x0 x1 x2 x3 x4 x5 x6 x7 x8 x9 x10 hb1 hb2
    obtain ⟨x0, x1, x2, x3, x4, x5, x6, x7, x8, x9, x10⟩ := HP.out w2 hz2
    go_wp2_with fail
    refine HR2.out.mono ?_
    rintro e w3 ⟨rfl, hb3⟩
    have HB3 := Hid.mk' (HB.out _ (HT.out _ _ hz2 hb3))
    clear HR2 x0 x1 x2 x3 x4 x5 x6 x7 x8 x9 x10 hb3 hz2
    go_wp2
    go_ret
    exact ⟨rfl, HB3.out⟩
  have hdz : decide ((20 : Int) < (l.length : Int)) = false := decide_eq_false (by omega)
  have hd : decide (20 < l.length) = false := decide_eq_false h20
  have HAS : ∀ W, Below W0.heap.size W0 W → Asked W a c t va vcap l := fun W hb => (Asked.below ⟨hT 9 (by omega), hok, hv, by omega, hdirs⟩ hb0).below hb
  have HBK : Hid (∀ W, Below W0.heap.size W0 W → _) := fun W hb => broken_any a c t va vcap l W (HAS W hb)
  have HRK : Hid (∀ W, Below W0.heap.size W0 W → _) := fun W hb => refBroken_any a c t va vcap l W (HAS W hb)
  have HLB : Hid (∀ W, Below W0.heap.size W0 W → _) := fun W hb => label_any a c t va vcap l W p ((hg.below hb0).below hb) (HAS W hb)
  have HRB : Hid (∀ W, Below W0.heap.size W0 W → _) := fun W hb => rightB_any a c t va vcap l W (HAS W hb)
  have HRR : Hid (∀ W, Below W0.heap.size W0 W → _) := fun W hb => refRight9_any a c t va vcap l W (HAS W hb)
  have HIN : Hid (∀ W x, _) := fun W x => lawIs_none x W
  have HIF : Hid (∀ W v B x, Below W0.heap.size W0 W → Hid (Flt W v B x (p 12)) → _) := fun W v B x hb hf => lawIs_fault v B x 12 W p ((hg.below hb0).below hb) ((het.below hb0).below hb) (by simp [Code]) hf.out
  have hbr := brk_range (dirsM (t 9) l)
  unfold PV at HGr HRt HBK HRK HLB HRB HRR ⊢
  generalize rightM (dirsM (t 9) l) = b at *
  generalize brkM (dirsM (t 9) l) = x at *
  obtain ⟨y1, y2⟩ := x
  simp only [] at HBK HRK HLB hbr
  clear hr hg het hT hv hb0 hp hl7 hok hdirs h20 HAS
  by_cases hz : y1 = 0
  · have hy2 := hbr.2.2.2 hz
    subst hz
    subst hy2
    have HLB0 : Hid (∀ W, Below W0.heap.size W0 W → (Calls Tryd.prog 12 #[.agg #[.slice (a 0) (t 0).length (c 0), .slice (a 1) (t 1).length (c 1), .slice (a 2) (t 2).length (c 2), .slice (a 3) (t 3).length (c 3), .slice (a 4) (t 4).length (c 4), .slice (a 5) (t 5).length (c 5), .slice (a 6) (t 6).length (c 6), .slice (a 7) (t 7).length (c 7), .slice (a 8) (t 8).length (c 8), .slice (a 9) (t 9).length (c 9), .slice (a 10) (t 10).length (c 10)], .slice va l.length vcap] W fun e w' => e = .returned .nilIface ∧ Below W.heap.size W w')) := fun W hb => by
      refine (HLB.out W hb).mono ?_
      rintro e w' ⟨fv, rfl, h | h, hb'⟩
      · exact ⟨by rw [h.2], hb'⟩
      · exact absurd rfl h.1
    clear HLB HIF hbr
    go_enter Tryd.func3, Tryd.ntmps3
    go_wp2_with fail
    refine HA.out.mono ?_
    rintro e w1 ⟨rfl, hb1⟩
    obtain ⟨x0, x1, x2, x3, x4, x5, x6, x7, x8, x9, x10⟩ := HP.out w1 hb1
    clear HA
    go_wp2_with fail
    refine (HGr.out w1).mono ?_
    rintro e w2 ⟨rfl, hb2⟩
    have hz2 := HT.out _ _ hb1 hb2
    have HR2 := Hid.mk' (HRt.out w2 hz2)
    clear HGr HRt x0 x1 x2 x3 x4 x5 x6 x7 x8 x9 x10 hb1 hb2
    obtain ⟨x0, x1, x2, x3, x4, x5, x6, x7, x8, x9, x10⟩ := HP.out w2 hz2
    go_wp2_with fail
    refine HR2.out.mono ?_
    rintro e w3 ⟨rfl, hb3⟩
    have hz3 := HT.out _ _ hz2 hb3
    have HR3 := Hid.mk' (HBK.out w3 hz3)
    clear HR2 HBK x0 x1 x2 x3 x4 x5 x6 x7 x8 x9 x10 hb3 hz2
    obtain ⟨x0, x1, x2, x3, x4, x5, x6, x7, x8, x9, x10⟩ := HP.out w3 hz3
    go_wp2_with fail
    refine HR3.out.mono ?_
    rintro e w4 ⟨rfl, hb4⟩
    have hz4 := HT.out _ _ hz3 hb4
    have HR4 := Hid.mk' (HRK.out w4 hz4)
    clear HR3 HRK x0 x1 x2 x3 x4 x5 x6 x7 x8 x9 x10 hb4 hz3
    obtain ⟨x0, x1, x2, x3, x4, x5, x6, x7, x8, x9, x10⟩ := HP.out w4 hz4
    go_wp2_with fail
    refine HR4.out.mono ?_
    rintro e w5 ⟨rfl, hb5⟩
    have hz5 := HT.out _ _ hz4 hb5
    have hz5d := hz5.drew
    clear HR4 x0 x1 x2 x3 x4 x5 x6 x7 x8 x9 x10 hb5 hz4
    go_wp2
    go_region_held3 (fun W' => (W'.cell? ⟨w.heap.size, 0, none⟩ = some (.slice (a 0) (t 0).length (c 0)) ∧ W'.cell? ⟨w.heap.size, 1, none⟩ = some (.slice (a 1) (t 1).length (c 1)) ∧ W'.cell? ⟨w.heap.size, 2, none⟩ = some (.slice (a 2) (t 2).length (c 2)) ∧ W'.cell? ⟨w.heap.size, 3, none⟩ = some (.slice (a 3) (t 3).length (c 3)) ∧ W'.cell? ⟨w.heap.size, 4, none⟩ = some (.slice (a 4) (t 4).length (c 4)) ∧ W'.cell? ⟨w.heap.size, 5, none⟩ = some (.slice (a 5) (t 5).length (c 5)) ∧ W'.cell? ⟨w.heap.size, 6, none⟩ = some (.slice (a 6) (t 6).length (c 6)) ∧ W'.cell? ⟨w.heap.size, 7, none⟩ = some (.slice (a 7) (t 7).length (c 7)) ∧ W'.cell? ⟨w.heap.size, 8, none⟩ = some (.slice (a 8) (t 8).length (c 8)) ∧ W'.cell? ⟨w.heap.size, 9, none⟩ = some (.slice (a 9) (t 9).length (c 9)) ∧ W'.cell? ⟨w.heap.size, 10, none⟩ = some (.slice (a 10) (t 10).length (c 10)))) (exact HP.out _ (by assumption)) (first
      | (go_at_call 12; refine (HLB0.out _ (by assumption)).mono ?_; rintro e wA ⟨rfl, hbA⟩; have hzA := HT.out _ _ (by assumption) hbA)
      | (go_at_call 11; refine (HIN.out _ _).mono ?_; rintro e wB ⟨rfl, rfl⟩)
      | (go_at_call 13; refine (HRB.out _ (by assumption)).mono ?_; rintro e wC ⟨rfl, hbC⟩; have hzC := HT.out _ _ (by assumption) hbC)
      | (go_at_call 14; refine (HRR.out _ (by assumption)).mono ?_; rintro e wD ⟨rfl, hbD⟩; have hzD := HT.out _ _ (by assumption) hbD))
    have HBD := Hid.mk' (HB.out _ hzD)
    go_wp2
    go_ret
    exact ⟨rfl, HBD.out⟩
  · have hd0 : decide (0 < y1) = true := decide_eq_true (by omega)
    have HLB0 : Hid (∀ W, Below W0.heap.size W0 W → (Calls Tryd.prog 12 #[.agg #[.slice (a 0) (t 0).length (c 0), .slice (a 1) (t 1).length (c 1), .slice (a 2) (t 2).length (c 2), .slice (a 3) (t 3).length (c 3), .slice (a 4) (t 4).length (c 4), .slice (a 5) (t 5).length (c 5), .slice (a 6) (t 6).length (c 6), .slice (a 7) (t 7).length (c 7), .slice (a 8) (t 8).length (c 8), .slice (a 9) (t 9).length (c 9), .slice (a 10) (t 10).length (c 10)], .slice va l.length vcap] W fun e w' => ∃ fv, e = .returned fv ∧ Flt w' fv W.heap.size y2 (p 12) ∧ Below W.heap.size W w')) := fun W hb => by
      refine (HLB.out W hb).mono ?_
      rintro e w' ⟨fv, rfl, h | h, hb'⟩
      · exact absurd h.1 hz
      · exact ⟨fv, rfl, h.2, hb'⟩
    clear HLB HIN hbr hz
    go_enter Tryd.func3, Tryd.ntmps3
    go_wp2_with fail
    refine HA.out.mono ?_
    rintro e w1 ⟨rfl, hb1⟩
    obtain ⟨x0, x1, x2, x3, x4, x5, x6, x7, x8, x9, x10⟩ := HP.out w1 hb1
    clear HA
    go_wp2_with fail
    refine (HGr.out w1).mono ?_
    rintro e w2 ⟨rfl, hb2⟩
    have hz2 := HT.out _ _ hb1 hb2
    have HR2 := Hid.mk' (HRt.out w2 hz2)
    clear HGr HRt x0 x1 x2 x3 x4 x5 x6 x7 x8 x9 x10 hb1 hb2
    obtain ⟨x0, x1, x2, x3, x4, x5, x6, x7, x8, x9, x10⟩ := HP.out w2 hz2
    go_wp2_with fail
    refine HR2.out.mono ?_
    rintro e w3 ⟨rfl, hb3⟩
    have hz3 := HT.out _ _ hz2 hb3
    have HR3 := Hid.mk' (HBK.out w3 hz3)
    clear HR2 HBK x0 x1 x2 x3 x4 x5 x6 x7 x8 x9 x10 hb3 hz2
    obtain ⟨x0, x1, x2, x3, x4, x5, x6, x7, x8, x9, x10⟩ := HP.out w3 hz3
    go_wp2_with fail
    refine HR3.out.mono ?_
    rintro e w4 ⟨rfl, hb4⟩
    have hz4 := HT.out _ _ hz3 hb4
    have HR4 := Hid.mk' (HRK.out w4 hz4)
    clear HR3 HRK x0 x1 x2 x3 x4 x5 x6 x7 x8 x9 x10 hb4 hz3
    obtain ⟨x0, x1, x2, x3, x4, x5, x6, x7, x8, x9, x10⟩ := HP.out w4 hz4
    go_wp2_with fail
    refine HR4.out.mono ?_
    rintro e w5 ⟨rfl, hb5⟩
    have hz5 := HT.out _ _ hz4 hb5
    have hz5d := hz5.drew
    clear HR4 x0 x1 x2 x3 x4 x5 x6 x7 x8 x9 x10 hb5 hz4
    go_wp2
    go_region_held3 (fun W' => (W'.cell? ⟨w.heap.size, 0, none⟩ = some (.slice (a 0) (t 0).length (c 0)) ∧ W'.cell? ⟨w.heap.size, 1, none⟩ = some (.slice (a 1) (t 1).length (c 1)) ∧ W'.cell? ⟨w.heap.size, 2, none⟩ = some (.slice (a 2) (t 2).length (c 2)) ∧ W'.cell? ⟨w.heap.size, 3, none⟩ = some (.slice (a 3) (t 3).length (c 3)) ∧ W'.cell? ⟨w.heap.size, 4, none⟩ = some (.slice (a 4) (t 4).length (c 4)) ∧ W'.cell? ⟨w.heap.size, 5, none⟩ = some (.slice (a 5) (t 5).length (c 5)) ∧ W'.cell? ⟨w.heap.size, 6, none⟩ = some (.slice (a 6) (t 6).length (c 6)) ∧ W'.cell? ⟨w.heap.size, 7, none⟩ = some (.slice (a 7) (t 7).length (c 7)) ∧ W'.cell? ⟨w.heap.size, 8, none⟩ = some (.slice (a 8) (t 8).length (c 8)) ∧ W'.cell? ⟨w.heap.size, 9, none⟩ = some (.slice (a 9) (t 9).length (c 9)) ∧ W'.cell? ⟨w.heap.size, 10, none⟩ = some (.slice (a 10) (t 10).length (c 10)))) (exact HP.out _ (by assumption)) (first
      | (go_at_call 12; refine (HLB0.out _ (by assumption)).mono ?_; rintro e wA ⟨fv, rfl, hf, hbA⟩; have hzA := HT.out _ _ (by assumption) hbA; have HF := Hid.mk' hf; obtain ⟨fb, -, rfl, -, -⟩ := hf)
      | (go_at_call 11; refine (HIF.out _ _ _ _ (by assumption) (by assumption)).mono ?_; rintro e wB ⟨rfl, hbB⟩; have hzB := HT.out _ _ (by assumption) hbB)
      | (go_at_call 13; refine (HRB.out _ (by assumption)).mono ?_; rintro e wC ⟨rfl, hbC⟩; have hzC := HT.out _ _ (by assumption) hbC)
      | (go_at_call 14; refine (HRR.out _ (by assumption)).mono ?_; rintro e wD ⟨rfl, hbD⟩; have hzD := HT.out _ _ (by assumption) hbD))
    have HBD := Hid.mk' (HB.out _ hzD)
    go_wp2
    go_ret
    exact ⟨rfl, HBD.out⟩
end Go.Proofs.YtcklfcoobccgcaaDoor

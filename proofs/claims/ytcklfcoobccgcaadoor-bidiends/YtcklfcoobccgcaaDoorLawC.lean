/-
  What is proved here: that BidiEnds answers true at any properties and any two lists of runes.
-/
import Derived.Test.YtcklfcoobccgcaaDoorD5
import Derived.Test.YtcklfcoobccgcaaDoorD9
import Derived.Test.YtcklfcoobccgcaaDoorL3
import Derived.Test.YtcklfcoobccgcaaDoorL4
import Derived.Test.YtcklfcoobccgcaaDoorDA
import Derived.Deep.CutRange
namespace Go.Proofs.YtcklfcoobccgcaaDoor
open Go.RowKit Go.Shelf

set_option maxRecDepth 20000 in
set_option maxHeartbeats 16000000 in
theorem ends9_any (w : World) (p : Nat → Addr) (hg : Gl p w) (a : Nat → Option Addr) (c : Nat → Nat) (t : Nat → List Rg) (hT : PT w a c t) (v : Value) (l : List Int) (hvz : RunesZ w v l) (vm : Value) (m : List Int) (hm : Runes w vm m) :
    Calls Tryd.prog 5 #[PV a c t, v, vm] w fun e w' => e = .returned (.bool true) ∧ Below w.heap.size w w' := by
  obtain ⟨hv, hzl⟩ := hvz
  obtain ⟨va, vcap, rfl, -⟩ := id hv
  obtain ⟨ma, mcap, rfl, -⟩ := id hm
  obtain ⟨W0, hW0, hsz0, hb0, hp⟩ := prop_box w a c t
  have HA := Hid.mk' (awake9_any W0)
  have HGr : Hid (∀ W, _) := fun W => greatP_any a c t W
  have HB : Hid (∀ W, Below W0.heap.size W0 W → Below w.heap.size w W) := fun W hb => hb0.trans (hb.mono hb0.size)
  have HP : Hid (∀ W, Below W0.heap.size W0 W → (W.cell? ⟨w.heap.size, 0, none⟩ = some (.slice (a 0) (t 0).length (c 0)) ∧ W.cell? ⟨w.heap.size, 1, none⟩ = some (.slice (a 1) (t 1).length (c 1)) ∧ W.cell? ⟨w.heap.size, 2, none⟩ = some (.slice (a 2) (t 2).length (c 2)) ∧ W.cell? ⟨w.heap.size, 3, none⟩ = some (.slice (a 3) (t 3).length (c 3)) ∧ W.cell? ⟨w.heap.size, 4, none⟩ = some (.slice (a 4) (t 4).length (c 4)) ∧ W.cell? ⟨w.heap.size, 5, none⟩ = some (.slice (a 5) (t 5).length (c 5)) ∧ W.cell? ⟨w.heap.size, 6, none⟩ = some (.slice (a 6) (t 6).length (c 6)) ∧ W.cell? ⟨w.heap.size, 7, none⟩ = some (.slice (a 7) (t 7).length (c 7)) ∧ W.cell? ⟨w.heap.size, 8, none⟩ = some (.slice (a 8) (t 8).length (c 8)) ∧ W.cell? ⟨w.heap.size, 9, none⟩ = some (.slice (a 9) (t 9).length (c 9)) ∧ W.cell? ⟨w.heap.size, 10, none⟩ = some (.slice (a 10) (t 10).length (c 10)))) := fun W hb => by
    have q := hp.below hb
    exact ⟨q 0 (by omega), q 1 (by omega), q 2 (by omega), q 3 (by omega), q 4 (by omega), q 5 (by omega), q 6 (by omega), q 7 (by omega), q 8 (by omega), q 9 (by omega), q 10 (by omega)⟩
  have HT : Hid (∀ W W', Below W0.heap.size W0 W → Below W.heap.size W W' → Below W0.heap.size W0 W') := fun W W' h1 h2 => h1.trans (h2.mono h1.size)
  cases hgr : great7 t
  rotate_left
  · rw [hgr] at HGr
    unfold PV at HGr ⊢
    clear hgr hg hT hv hm hzl hb0 hp
    go_enter Tryd.func5, Tryd.ntmps5
    go_wp2_with fail
    refine HA.out.mono ?_
    rintro e w1 ⟨rfl, hb1⟩
    obtain ⟨x0, x1, x2, x3, x4, x5, x6, x7, x8, x9, x10⟩ := HP.out w1 hb1
    clear HA
    go_wp2_with fail
    refine (HGr.out w1).mono ?_
    rintro e w2 ⟨rfl, hb2⟩
    have HB2 := Hid.mk' (HB.out _ (HT.out _ _ hb1 hb2))
    clear HGr x0 x1 x2 x3 x4 x5 x6 x7 x8 x9 x10 hb1 hb2
    go_wp2
    go_ret
    exact ⟨rfl, HB2.out⟩
  rw [hgr] at HGr
  have hl7 := great7_false hgr
  clear hgr
  by_cases h20 : 20 < l.length
  · have hdz : decide ((20 : Int) < (l.length : Int)) = true := decide_eq_true (by omega)
    have hd : decide (20 < l.length) = true := decide_eq_true h20
    unfold PV at HGr ⊢
    clear hg hT hv hm hzl hb0 hp hl7 h20
    go_enter Tryd.func5, Tryd.ntmps5
    go_wp2_with fail
    refine HA.out.mono ?_
    rintro e w1 ⟨rfl, hb1⟩
    obtain ⟨x0, x1, x2, x3, x4, x5, x6, x7, x8, x9, x10⟩ := HP.out w1 hb1
    clear HA
    go_wp2_with fail
    refine (HGr.out w1).mono ?_
    rintro e w2 ⟨rfl, hb2⟩
    have HB2 := Hid.mk' (HB.out _ (HT.out _ _ hb1 hb2))
    clear HGr x0 x1 x2 x3 x4 x5 x6 x7 x8 x9 x10 hb1 hb2
    go_wp2
    go_ret
    exact ⟨rfl, HB2.out⟩
  have hdz : decide ((20 : Int) < (l.length : Int)) = false := decide_eq_false (by omega)
  have hd : decide (20 < l.length) = false := decide_eq_false h20
  by_cases h5 : 5 < m.length
  · have hmz : decide ((5 : Int) < (m.length : Int)) = true := decide_eq_true (by omega)
    have hmd : decide (5 < m.length) = true := decide_eq_true h5
    unfold PV at HGr ⊢
    clear hg hT hv hm hzl hb0 hp hl7 h20 h5
    go_enter Tryd.func5, Tryd.ntmps5
    go_wp2_with fail
    refine HA.out.mono ?_
    rintro e w1 ⟨rfl, hb1⟩
    obtain ⟨x0, x1, x2, x3, x4, x5, x6, x7, x8, x9, x10⟩ := HP.out w1 hb1
    clear HA
    go_wp2_with fail
    refine (HGr.out w1).mono ?_
    rintro e w2 ⟨rfl, hb2⟩
    have HB2 := Hid.mk' (HB.out _ (HT.out _ _ hb1 hb2))
    clear HGr x0 x1 x2 x3 x4 x5 x6 x7 x8 x9 x10 hb1 hb2
    go_wp2
    go_ret
    exact ⟨rfl, HB2.out⟩
  have hmz : decide ((5 : Int) < (m.length : Int)) = false := decide_eq_false (by omega)
  have hmd : decide (5 < m.length) = false := decide_eq_false h5
  have HCK : Hid (∀ W, Below W0.heap.size W0 W → _) := fun W hb => check7_any a c t W p ((hg.below hb0).below hb) ((hT.below hb0).below hb) (fun i hi => by have := hl7 i hi; omega)
  by_cases hr : (chk7 t).2 = 0
  rotate_left
  · have HK : Hid (∀ W, Below W0.heap.size W0 W → (Calls Tryd.prog 19 #[PV a c t] W fun e w' => ∃ b, e = .returned (.iface 55 (.pointer (some ⟨b, 0, none⟩))) ∧ Below W.heap.size W w')) := fun W hb => by
      refine (HCK.out W hb).mono ?_
      rintro e w' ⟨fv, rfl, h | h, hb'⟩
      · exact absurd (by rw [h.1]) hr
      · obtain ⟨-, b, -, rfl, -, -⟩ := h
        exact ⟨b, rfl, hb'⟩
    unfold PV at HGr HK ⊢
    clear hg hT hv hm hzl hb0 hp hl7 h20 h5 hr HCK
    go_enter Tryd.func5, Tryd.ntmps5
    go_wp2_with fail
    refine HA.out.mono ?_
    rintro e w1 ⟨rfl, hb1⟩
    obtain ⟨x0, x1, x2, x3, x4, x5, x6, x7, x8, x9, x10⟩ := HP.out w1 hb1
    clear HA
    go_wp2_with fail
    refine (HGr.out w1).mono ?_
    rintro e w2 ⟨rfl, hb2⟩
    have hz2 := HT.out _ _ hb1 hb2
    have HR2 := Hid.mk' (HK.out w2 hz2)
    clear HGr HK x0 x1 x2 x3 x4 x5 x6 x7 x8 x9 x10 hb1 hb2
    obtain ⟨x0, x1, x2, x3, x4, x5, x6, x7, x8, x9, x10⟩ := HP.out w2 hz2
    go_wp2_with fail
    refine HR2.out.mono ?_
    rintro e w3 ⟨b, rfl, hb3⟩
    have HB3 := Hid.mk' (HB.out _ (HT.out _ _ hz2 hb3))
    clear HR2 x0 x1 x2 x3 x4 x5 x6 x7 x8 x9 x10 hb3 hz2
    go_wp2
    go_ret
    exact ⟨rfl, HB3.out⟩
  have HK : Hid (∀ W, Below W0.heap.size W0 W → (Calls Tryd.prog 19 #[PV a c t] W fun e w' => e = .returned .nilIface ∧ Below W.heap.size W w')) := fun W hb => by
    refine (HCK.out W hb).mono ?_
    rintro e w' ⟨fv, rfl, h | h, hb'⟩
    · exact ⟨by rw [h.2], hb'⟩
    · exact absurd hr h.1
  have hok : Ok (t 9) := right7_ok hr 9 (by omega)
  have hdr : ∀ k : List Int, Dirs (dirsM (t 9) k) := fun k => dirsM_dirs hr k
  have hdirs := hdr l
  have hT9 : Tab w (.slice (a 9) (t 9).length (c 9)) (t 9) := hT 9 (by omega)
  have HAS : ∀ W, Below W0.heap.size W0 W → Asked W a c t va vcap l := fun W hb => (Asked.below ⟨hT9, hok, hv, by omega, hdirs⟩ hb0).below hb
  have HBK : Hid (∀ W, Below W0.heap.size W0 W → _) := fun W hb => broken_any a c t va vcap l W (HAS W hb)
  have hlen := dirsM_len (t 9) l
  have HV : Hid (∀ W, Below W0.heap.size W0 W → ∀ j, j < l.length → ∃ b off, va = some ⟨b, off, none⟩ ∧ W.cell? ⟨b, off + j, none⟩ = some (.int .i32 (l.getD j 0))) := fun W hb j hj => by
    obtain ⟨va', vc', e, h⟩ := (hv.below hb0).below hb
    injection e with e1 e2 e3
    obtain ⟨b, off, e4, hc⟩ := h j hj
    exact ⟨b, off, e1.trans e4, hc⟩
  by_cases hz : (brkM (dirsM (t 9) l)).1 = 0
  rotate_left
  · have HLB0 : Hid (∀ W, Below W0.heap.size W0 W → (Calls Tryd.prog 12 #[PV a c t, .slice va l.length vcap] W fun e w' => ∃ b, e = .returned (.iface 55 (.pointer (some ⟨b, 0, none⟩))) ∧ Below W.heap.size W w')) := fun W hb => by
      refine (label_any a c t va vcap l W p ((hg.below hb0).below hb) (HAS W hb)).mono ?_
      rintro e w' ⟨fv, rfl, h | h, hb'⟩
      · exact absurd h.1 hz
      · obtain ⟨-, b, -, rfl, -, -⟩ := h
        exact ⟨b, rfl, hb'⟩
    unfold PV at HGr HK HBK HLB0 ⊢
    generalize brkM (dirsM (t 9) l) = x at *
    obtain ⟨y1, y2⟩ := x
    simp only [] at HBK hz
    have hz' : (y1 != 0) = true := by simpa using hz
    clear hg hT hv hm hzl hb0 hp hl7 h20 h5 hr HCK hok hdr hdirs hT9 HAS hlen HV hz
    go_enter Tryd.func5, Tryd.ntmps5
    go_wp2_with fail
    refine HA.out.mono ?_
    rintro e w1 ⟨rfl, hb1⟩
    obtain ⟨x0, x1, x2, x3, x4, x5, x6, x7, x8, x9, x10⟩ := HP.out w1 hb1
    clear HA
    go_wp2_with fail
    refine (HGr.out w1).mono ?_
    rintro e w2 ⟨rfl, hb2⟩
    have hz2 := HT.out _ _ hb1 hb2
    have HR2 := Hid.mk' (HK.out w2 hz2)
    clear HGr HK x0 x1 x2 x3 x4 x5 x6 x7 x8 x9 x10 hb1 hb2
    obtain ⟨x0, x1, x2, x3, x4, x5, x6, x7, x8, x9, x10⟩ := HP.out w2 hz2
    go_wp2_with fail
    refine HR2.out.mono ?_
    rintro e w3 ⟨rfl, hb3⟩
    have hz3 := HT.out _ _ hz2 hb3
    have HR3 := Hid.mk' (HBK.out w3 hz3)
    clear HR2 HBK x0 x1 x2 x3 x4 x5 x6 x7 x8 x9 x10 hb3 hz2
    obtain ⟨x0, x1, x2, x3, x4, x5, x6, x7, x8, x9, x10⟩ := HP.out w3 hz3
    go_wp2_with fail
    refine HR3.out.mono ?_
    rintro e w4 ⟨rfl, hb4⟩
    have hz4 := HT.out _ _ hz3 hb4
    have HR4 := Hid.mk' (HLB0.out w4 hz4)
    clear HR3 HLB0 x0 x1 x2 x3 x4 x5 x6 x7 x8 x9 x10 hb4 hz3
    obtain ⟨x0, x1, x2, x3, x4, x5, x6, x7, x8, x9, x10⟩ := HP.out w4 hz4
    go_wp2_with fail
    refine HR4.out.mono ?_
    rintro e w5 ⟨b, rfl, hb5⟩
    have HB5 := Hid.mk' (HB.out _ (HT.out _ _ hz4 hb5))
    clear HR4 x0 x1 x2 x3 x4 x5 x6 x7 x8 x9 x10 hb5 hz4
    go_wp2
    go_ret
    exact ⟨rfl, HB5.out⟩
  have hn0 : l.length ≠ 0 := by have := (brk_none hz).1; omega
  have hlz : ((l.length : Int) == 0) = false := by simpa using hn0
  obtain ⟨b, off, rfl, -⟩ := HV.out W0 (Below.refl _ _) 0 (by omega)
  have hends := brk_ends hdirs hz
  have h10 : (dirsM (t 9) l).getD 0 0 ≠ 10 := brk_first (brk_none hz).2.1
  have HD : Hid (∀ W k, Below W0.heap.size W0 W → k < l.length → (Calls Tryd.prog 20 #[PV a c t, .int .i32 (l.getD k 0)] W fun e w' => e = .returned (.int .i64 ((dirsM (t 9) l).getD k 0)) ∧ Below W.heap.size W w')) := fun W k hb hk => by
    rw [dirsM_at hk]
    exact direction_any a c t _ W ((hT9.below hb0).below hb) hok
  have HDM : Hid (∀ W k, Below W0.heap.size W0 W → k < m.length → (Calls Tryd.prog 20 #[PV a c t, .int .i32 (m.getD k 0)] W fun e w' => e = .returned (.int .i64 ((dirsM (t 9) m).getD k 0)) ∧ Below W.heap.size W w')) := fun W k hb hk => by
    rw [dirsM_at hk]
    exact direction_any a c t _ W ((hT9.below hb0).below hb) hok
  have HVM : Hid (∀ W, Below W0.heap.size W0 W → ∀ j, j < m.length → ∃ b off, ma = some ⟨b, off, none⟩ ∧ W.cell? ⟨b, off + j, none⟩ = some (.int .i32 (m.getD j 0))) := fun W hb j hj => by
    obtain ⟨va', vc', e, h⟩ := (hm.below hb0).below hb
    injection e with e1 e2 e3
    obtain ⟨b, off, e4, hc⟩ := h j hj
    exact ⟨b, off, e1.trans e4, hc⟩
  have HVZ : Hid (∀ W, Below W0.heap.size W0 W → RunesZ W (.slice (some ⟨b, off, none⟩) l.length vcap) l) := fun W hb => ⟨(hv.below hb0).below hb, hzl⟩
  have HBT : Hid (∀ W vb cb L, Below W0.heap.size W0 W → (∀ j, j < m.length → (dirsM (t 9) m).getD j 0 = 10) → L = l ++ m → Runes W (.slice vb L.length cb) L → (Calls Tryd.prog 9 #[PV a c t, .slice vb L.length cb] W fun e w' => e = .returned (.tuple #[.int .i64 0, .int .i64 0]) ∧ Below W.heap.size W w')) := fun W vb cb L hb hN e hR => by
    have hlm : L.length ≤ 1000000 := by rw [e, List.length_append]; omega
    have := broken_any a c t vb cb L W ⟨(hT9.below hb0).below hb, hok, hR, hlm, hdr L⟩
    have e2 : brkM (dirsM (t 9) L) = (0, 0) := by
      rw [e, dirsM_app]
      exact brk_app (fun i hi => hN i (by rw [dirsM_len] at hi; exact hi)) hz
    rw [e2] at this
    exact this
  have HRT : Hid (∀ W vb cb L x, Below W0.heap.size W0 W → (∀ j, j < m.length → (dirsM (t 9) m).getD j 0 = 10) → L = l ++ m → Runes W (.slice vb L.length cb) L → (x = .slice vb L.length cb ∨ x = .slice (some ⟨b, off, none⟩) l.length vcap) → (Calls Tryd.prog 13 #[PV a c t, x] W fun e w' => e = .returned (.bool (rightM (dirsM (t 9) l))) ∧ Below W.heap.size W w')) := fun W vb cb L x hb hN e hR hx => by
    have hlm : L.length ≤ 1000000 := by rw [e, List.length_append]; omega
    rcases hx with rfl | rfl
    · have := rightB_any a c t vb cb L W ⟨(hT9.below hb0).below hb, hok, hR, hlm, hdr L⟩
      have e2 : rightM (dirsM (t 9) L) = rightM (dirsM (t 9) l) := by
        rw [e, dirsM_app]
        exact right_app (fun i hi => hN i (by rw [dirsM_len] at hi; exact hi))
      rw [e2] at this
      exact this
    · exact rightB_any a c t (some ⟨b, off, none⟩) vcap l W (HAS W hb)
  have HES : Hid (endF (dirsM (t 9) l) l.length = endM (dirsM (t 9) l)) := by show _ = endF _ _; rw [hlen]
  have HEL : endM (dirsM (t 9) l) < l.length := by have := endF_lt (ds := dirsM (t 9) l) (n := l.length) (by omega); rw [HES.out] at this; exact this
  have hbr := brk_range (dirsM (t 9) l)
  unfold PV at HGr HK HBK HD HDM HBT HRT ⊢
  generalize rightM (dirsM (t 9) l) = bR at *
  generalize brkM (dirsM (t 9) l) = x at *
  obtain ⟨y1, y2⟩ := x
  simp only [] at HBK hz hbr
  subst hz
  generalize dirsM (t 9) l = ds at *
  generalize dirsM (t 9) m = dm at *
  have HPE : Hid (∀ k, ds.getD k 0 = 10 → endF ds (k + 1) = endM ds → endF ds k = endM ds) := fun k h e => by rw [endF_pass h] at e; exact e
  have HHE : Hid (∀ k, ds.getD k 0 ≠ 10 → endF ds (k + 1) = endM ds → k = endM ds) := fun k h e => by rw [endF_hit h] at e; exact e
  have hls : l.length ≤ 20 := by omega
  have hms : m.length ≤ 5 := by omega
  clear hg hT hv hm hzl hb0 hp hl7 h20 h5 hr HCK hok hdr hdirs hT9 HAS hlen hbr
  go_enter Tryd.func5, Tryd.ntmps5
  go_wp2_with fail
  refine HA.out.mono ?_
  rintro e w1 ⟨rfl, hb1⟩
  obtain ⟨x0, x1, x2, x3, x4, x5, x6, x7, x8, x9, x10⟩ := HP.out w1 hb1
  clear HA
  go_wp2_with fail
  refine (HGr.out w1).mono ?_
  rintro e w2 ⟨rfl, hb2⟩
  have hz2 := HT.out _ _ hb1 hb2
  have HR2 := Hid.mk' (HK.out w2 hz2)
  clear HGr HK x0 x1 x2 x3 x4 x5 x6 x7 x8 x9 x10 hb1 hb2
  obtain ⟨x0, x1, x2, x3, x4, x5, x6, x7, x8, x9, x10⟩ := HP.out w2 hz2
  go_wp2_with fail
  refine HR2.out.mono ?_
  rintro e w3 ⟨rfl, hb3⟩
  have hz3 := HT.out _ _ hz2 hb3
  have HR3 := Hid.mk' (HBK.out w3 hz3)
  clear HR2 HBK x0 x1 x2 x3 x4 x5 x6 x7 x8 x9 x10 hb3 hz2
  obtain ⟨x0, x1, x2, x3, x4, x5, x6, x7, x8, x9, x10⟩ := HP.out w3 hz3
  go_wp2_with fail
  refine HR3.out.mono ?_
  rintro e w4 ⟨rfl, hb4⟩
  have hz4 := HT.out _ _ hz3 hb4
  clear HR3 x0 x1 x2 x3 x4 x5 x6 x7 x8 x9 x10 hb4 hz3
  have HK0 : Hid (∀ W, Below W0.heap.size W0 W → (W.cell? ⟨w.heap.size, 0, none⟩ = some (.slice (a 0) (t 0).length (c 0)) ∧ W.cell? ⟨w.heap.size, 1, none⟩ = some (.slice (a 1) (t 1).length (c 1)) ∧ W.cell? ⟨w.heap.size, 2, none⟩ = some (.slice (a 2) (t 2).length (c 2)) ∧ W.cell? ⟨w.heap.size, 3, none⟩ = some (.slice (a 3) (t 3).length (c 3)) ∧ W.cell? ⟨w.heap.size, 4, none⟩ = some (.slice (a 4) (t 4).length (c 4)) ∧ W.cell? ⟨w.heap.size, 5, none⟩ = some (.slice (a 5) (t 5).length (c 5)) ∧ W.cell? ⟨w.heap.size, 6, none⟩ = some (.slice (a 6) (t 6).length (c 6)) ∧ W.cell? ⟨w.heap.size, 7, none⟩ = some (.slice (a 7) (t 7).length (c 7)) ∧ W.cell? ⟨w.heap.size, 8, none⟩ = some (.slice (a 8) (t 8).length (c 8)) ∧ W.cell? ⟨w.heap.size, 9, none⟩ = some (.slice (a 9) (t 9).length (c 9)) ∧ W.cell? ⟨w.heap.size, 10, none⟩ = some (.slice (a 10) (t 10).length (c 10))) ∧ W.cell? ⟨b, off, none⟩ = some (.int .i32 (l.getD 0 0))) := fun W hb => by
    obtain ⟨b', off', e, q⟩ := HV.out W hb 0 (by omega)
    injection e with e
    injection e with e1 e2
    subst e1 e2
    exact ⟨HP.out W hb, q⟩
  have HD0 : Hid (∀ W, Below W0.heap.size W0 W → _) := fun W hb => HD.out W 0 hb (by omega)
  have HKE : Hid (∀ W, Below W0.heap.size W0 W → (W.cell? ⟨w.heap.size, 0, none⟩ = some (.slice (a 0) (t 0).length (c 0)) ∧ W.cell? ⟨w.heap.size, 1, none⟩ = some (.slice (a 1) (t 1).length (c 1)) ∧ W.cell? ⟨w.heap.size, 2, none⟩ = some (.slice (a 2) (t 2).length (c 2)) ∧ W.cell? ⟨w.heap.size, 3, none⟩ = some (.slice (a 3) (t 3).length (c 3)) ∧ W.cell? ⟨w.heap.size, 4, none⟩ = some (.slice (a 4) (t 4).length (c 4)) ∧ W.cell? ⟨w.heap.size, 5, none⟩ = some (.slice (a 5) (t 5).length (c 5)) ∧ W.cell? ⟨w.heap.size, 6, none⟩ = some (.slice (a 6) (t 6).length (c 6)) ∧ W.cell? ⟨w.heap.size, 7, none⟩ = some (.slice (a 7) (t 7).length (c 7)) ∧ W.cell? ⟨w.heap.size, 8, none⟩ = some (.slice (a 8) (t 8).length (c 8)) ∧ W.cell? ⟨w.heap.size, 9, none⟩ = some (.slice (a 9) (t 9).length (c 9)) ∧ W.cell? ⟨w.heap.size, 10, none⟩ = some (.slice (a 10) (t 10).length (c 10))) ∧ W.cell? ⟨b, off + endM ds, none⟩ = some (.int .i32 (l.getD (endM ds) 0))) := fun W hb => by
    obtain ⟨b', off', e, q⟩ := HV.out W hb (endM ds) HEL
    injection e with e
    injection e with e1 e2
    subst e1 e2
    exact ⟨HP.out W hb, q⟩
  have HDE : Hid (∀ W, Below W0.heap.size W0 W → _) := fun W hb => HD.out W (endM ds) hb HEL
  have HENDS := Hid.mk' hends
  have H10 := Hid.mk' h10
  clear hends h10
  generalize endM ds = E at *
  have hEz : (E : Int) < (l.length : Int) := by omega
  have h0z : (0 : Int) < (l.length : Int) := by omega
  have h0n : 0 < l.length := by omega
  go_wp2
  go_loopw [9] (fun x wr => ∃ k : Nat, k < l.length ∧ x = .int .i64 k ∧ Hid (endF ds (k + 1) = E) ∧ Below W0.heap.size W0 wr) (fun x _ => (intOf x).toNat)
  case atStart =>
    refine ⟨l.length - 1, by omega, ?_, ?_, hz4⟩
    · rw [show ((l.length - 1 : Nat) : Int) = (l.length : Int) - 1 by omega]
    · rw [show l.length - 1 + 1 = l.length by omega]; exact HES
  case round =>
    obtain ⟨k, hk, rfl, HA, hb⟩ := hrel
    clear hz4
    have hbd := hb.drew
    by_cases hk0 : k = 0
    · have hE0 : k = E := HHE.out k (by rw [hk0]; exact H10.out) HA.out
      have hd0 : decide ((0 : Int) < (k : Int)) = false := decide_eq_false (by omega)
      have hd0' : decide (0 < k) = false := decide_eq_false (by omega)
      have hkz : (k : Int) < (l.length : Int) := by omega
      subst hE0
      clear hk0 HHE HPE HA HES H10 HD
      generalize ds.getD k 0 = z at *
      generalize ds.getD 0 0 = d0 at *
      generalize l.getD k 0 = rE at *
      generalize l.getD 0 0 = r0 at *
      go_wp2
      go_region
      go_wp2
      have hbd2 := hbd.drew
      go_region_held3 (fun W' => (W'.cell? ⟨w.heap.size, 0, none⟩ = some (.slice (a 0) (t 0).length (c 0)) ∧ W'.cell? ⟨w.heap.size, 1, none⟩ = some (.slice (a 1) (t 1).length (c 1)) ∧ W'.cell? ⟨w.heap.size, 2, none⟩ = some (.slice (a 2) (t 2).length (c 2)) ∧ W'.cell? ⟨w.heap.size, 3, none⟩ = some (.slice (a 3) (t 3).length (c 3)) ∧ W'.cell? ⟨w.heap.size, 4, none⟩ = some (.slice (a 4) (t 4).length (c 4)) ∧ W'.cell? ⟨w.heap.size, 5, none⟩ = some (.slice (a 5) (t 5).length (c 5)) ∧ W'.cell? ⟨w.heap.size, 6, none⟩ = some (.slice (a 6) (t 6).length (c 6)) ∧ W'.cell? ⟨w.heap.size, 7, none⟩ = some (.slice (a 7) (t 7).length (c 7)) ∧ W'.cell? ⟨w.heap.size, 8, none⟩ = some (.slice (a 8) (t 8).length (c 8)) ∧ W'.cell? ⟨w.heap.size, 9, none⟩ = some (.slice (a 9) (t 9).length (c 9)) ∧ W'.cell? ⟨w.heap.size, 10, none⟩ = some (.slice (a 10) (t 10).length (c 10))) ∧ W'.cell? ⟨b, off + k, none⟩ = some (.int .i32 rE)) (exact HKE.out _ (by assumption)) (first
        | (go_at_call 20; refine (HDE.out _ (by assumption)).mono ?_; rintro e wB ⟨rfl, hbB⟩; have hzB := HT.out _ _ (by assumption) hbB))
      have hzBd := hzB.drew
      clear hbB
      obtain ⟨bl, hbl⟩ : ∃ bl, (d0 == 1) = bl := ⟨_, rfl⟩
      have HENB : Hid ((bl = true ∧ ((z != 1) = false ∨ ((z != 1) = true ∧ (z != 4) = false))) ∨ (bl = false ∧ ((z != 2) = false ∨ ((z != 2) = true ∧ (z != 3) = false) ∨ ((z != 2) = true ∧ (z != 3) = true ∧ (z != 4) = false) ∨ ((z != 2) = true ∧ (z != 3) = true ∧ (z != 4) = true ∧ (z != 5) = false)))) := by
        rw [← hbl]
        rcases HENDS.out with ⟨q0, q | q⟩ | ⟨q0, q1, q2⟩
        · exact .inl ⟨by simpa using q0, .inl (by simpa using q)⟩
        · exact .inl ⟨by simpa using q0, .inr ⟨by rw [q]; rfl, by simpa using q⟩⟩
        · refine .inr ⟨by simpa using q0, ?_⟩
          rcases (by omega : z = 2 ∨ z = 3 ∨ z = 4 ∨ z = 5) with q | q | q | q
          · exact .inl (by simpa using q)
          · exact .inr (.inl ⟨by rw [q]; rfl, by simpa using q⟩)
          · exact .inr (.inr (.inl ⟨by rw [q]; rfl, by rw [q]; rfl, by simpa using q⟩))
          · exact .inr (.inr (.inr ⟨by rw [q]; rfl, by rw [q]; rfl, by rw [q]; rfl, by simpa using q⟩))
      clear HENDS
      go_wp2
      go_region_held3 (fun W' => (W'.cell? ⟨w.heap.size, 0, none⟩ = some (.slice (a 0) (t 0).length (c 0)) ∧ W'.cell? ⟨w.heap.size, 1, none⟩ = some (.slice (a 1) (t 1).length (c 1)) ∧ W'.cell? ⟨w.heap.size, 2, none⟩ = some (.slice (a 2) (t 2).length (c 2)) ∧ W'.cell? ⟨w.heap.size, 3, none⟩ = some (.slice (a 3) (t 3).length (c 3)) ∧ W'.cell? ⟨w.heap.size, 4, none⟩ = some (.slice (a 4) (t 4).length (c 4)) ∧ W'.cell? ⟨w.heap.size, 5, none⟩ = some (.slice (a 5) (t 5).length (c 5)) ∧ W'.cell? ⟨w.heap.size, 6, none⟩ = some (.slice (a 6) (t 6).length (c 6)) ∧ W'.cell? ⟨w.heap.size, 7, none⟩ = some (.slice (a 7) (t 7).length (c 7)) ∧ W'.cell? ⟨w.heap.size, 8, none⟩ = some (.slice (a 8) (t 8).length (c 8)) ∧ W'.cell? ⟨w.heap.size, 9, none⟩ = some (.slice (a 9) (t 9).length (c 9)) ∧ W'.cell? ⟨w.heap.size, 10, none⟩ = some (.slice (a 10) (t 10).length (c 10))) ∧ W'.cell? ⟨b, off, none⟩ = some (.int .i32 r0)) (exact HK0.out _ (by assumption)) (first
        | (go_at_call 20; refine (HD0.out _ (by assumption)).mono ?_; rintro e wC ⟨rfl, hbC⟩; have hzC := HT.out _ _ (by assumption) hbC))
      clear hzBd hbC hzB HKE HDE HK0 HD0
      go_upto_region 15 with fail
      go_cut [104] from 76 to 103 (fun x wx => x = .bool false ∧ wC = wx)
      case first =>
        rcases HENB.out with ⟨rfl, f1 | ⟨f1, f4⟩⟩ | ⟨rfl, f2 | ⟨f2, f3⟩ | ⟨f2, f3, f4⟩ | ⟨f2, f3, f4, f5⟩⟩
        all_goals
          clear HENB
          go_wp2
          go_meet
          case rel => exact ⟨rfl, rfl⟩
      case rest =>
      obtain ⟨rfl, rfl⟩ := hcut
      clear HENB hbl
      have O6 := Hid.mk' (own_new wC wC.heap.size [] 21 (Nat.le_refl _) (by simp))
      have B6 : Hid (Below wC.heap.size wC (wC.alloc (.cells #[] 21))) := (Below.refl _ _).alloc (Nat.le_refl _) _
      have V6 : Hid (RunesZ (wC.alloc (.cells #[] 21)) (.slice (some ⟨b, off, none⟩) l.length vcap) l) := HVZ.out _ (hzC.trans (B6.out.mono hzC.size))
      go_wp2_with (at_builtin; (refine wpList_append_runes rfl _ _ rfl wC.heap.size _ [] rfl O6.out _ l rfl V6.out (by simp; omega) (by first | (simp; done) | (simp; omega) | exact B6.out.size) ?_); intro v7 w7 ho7 hg7; have O7 : Hid (w7.ownsRow wC.heap.size 21 1 v7 l.length (l.map (Value.int .i32))) := (by show World.ownsRow _ _ _ _ _ _ _; simpa using ho7); have B7 : Hid (Below wC.heap.size wC w7) := B6.out.grown hg7 (by first | (simp; done) | (simp; omega) | exact B6.out.size) (fun j hj => (O6.out.lt j hj).1); obtain ⟨a7, c7, rfl⟩ := own_slice O7.out; clear ho7 hg7)
      have hz7 := hzC.trans (B7.out.mono hzC.size)
      obtain ⟨B, hB⟩ : ∃ B, wC.heap.size = B := ⟨_, rfl⟩
      have HBB : Hid (W0.heap.size ≤ B) := by show _ ≤ _; rw [← hB]; exact hzC.size
      have HB7 : Hid (B ≤ w7.heap.size) := by show _ ≤ _; rw [← hB]; exact B7.out.size
      rw [hB] at O7
      clear O6 B6 V6 B7 hzC hB HVZ
      go_loopw [12, 13] (fun x12 x13 wr2 => ∃ (k : Nat) (L : List Int) (ab : Option Addr) (cb : Nat), x12 = .slice ab L.length cb ∧ x13 = .int .i64 k ∧ k ≤ m.length ∧ Hid (L = l ++ m.take k) ∧ Hid (∀ j, j < k → dm.getD j 0 = 10) ∧ Hid (wr2.ownsRow B 21 1 (.slice ab L.length cb) L.length (L.map (Value.int .i32))) ∧ Below W0.heap.size W0 wr2 ∧ Hid (B ≤ wr2.heap.size)) (fun _ x13 _ => m.length - (intOf x13).toNat)
      case atStart => exact ⟨0, l, a7, c7, rfl, rfl, Nat.zero_le _, (by show _ = _; simp), fun j hj => by omega, O7, hz7, HB7⟩
      case round =>
        clear hz7 O7 HB7
        obtain ⟨k, L, ab, cb, rfl, rfl, hkm, HL, HN, HO, hb2, HBs⟩ := hrel
        by_cases hlt2 : k < m.length
        · obtain ⟨mb, moff, rfl, -⟩ := HVM.out _ hb2 k hlt2
          have HSm : Hid (∀ W, Below W0.heap.size W0 W → (W.cell? ⟨w.heap.size, 0, none⟩ = some (.slice (a 0) (t 0).length (c 0)) ∧ W.cell? ⟨w.heap.size, 1, none⟩ = some (.slice (a 1) (t 1).length (c 1)) ∧ W.cell? ⟨w.heap.size, 2, none⟩ = some (.slice (a 2) (t 2).length (c 2)) ∧ W.cell? ⟨w.heap.size, 3, none⟩ = some (.slice (a 3) (t 3).length (c 3)) ∧ W.cell? ⟨w.heap.size, 4, none⟩ = some (.slice (a 4) (t 4).length (c 4)) ∧ W.cell? ⟨w.heap.size, 5, none⟩ = some (.slice (a 5) (t 5).length (c 5)) ∧ W.cell? ⟨w.heap.size, 6, none⟩ = some (.slice (a 6) (t 6).length (c 6)) ∧ W.cell? ⟨w.heap.size, 7, none⟩ = some (.slice (a 7) (t 7).length (c 7)) ∧ W.cell? ⟨w.heap.size, 8, none⟩ = some (.slice (a 8) (t 8).length (c 8)) ∧ W.cell? ⟨w.heap.size, 9, none⟩ = some (.slice (a 9) (t 9).length (c 9)) ∧ W.cell? ⟨w.heap.size, 10, none⟩ = some (.slice (a 10) (t 10).length (c 10))) ∧ W.cell? ⟨mb, moff + k, none⟩ = some (.int .i32 (m.getD k 0))) := fun W hb => by
            obtain ⟨b', off', e, q⟩ := HVM.out W hb k hlt2
            injection e with e
            injection e with e1 e2
            subst e1 e2
            exact ⟨HP.out W hb, q⟩
          have HDk : Hid (∀ W, Below W0.heap.size W0 W → _) := fun W hb => HDM.out W k hb hlt2
          have HNX : Hid (dm.getD k 0 = 10 → ∀ j, j < k + 1 → dm.getD j 0 = 10) := fun e j hj => by
            rcases Nat.lt_or_ge j k with q | q
            · exact HN.out j q
            · obtain rfl : j = k := by omega
              exact e
          have HTK := Hid.mk' (take_succ_getD hlt2)
          have hbd2 := hb2.drew
          have HOd := Hid.mk' (owns_drew HO.out)
          have hkmz : (k : Int) < (m.length : Int) := by omega
          have hLl : L.length ≤ 25 := by rw [HL.out, List.length_append, List.length_take]; omega
          have HLx : Hid (L ++ [m.getD k 0] = l ++ m.take (k + 1)) := by show _ = _; rw [HTK.out, HL.out, List.append_assoc]
          generalize dm.getD k 0 = d at *
          generalize m.getD k 0 = r at *
          clear HVM HDM HL HN HTK HBT HRT
          go_wp2
          go_region_held3 (fun W' => (W'.cell? ⟨w.heap.size, 0, none⟩ = some (.slice (a 0) (t 0).length (c 0)) ∧ W'.cell? ⟨w.heap.size, 1, none⟩ = some (.slice (a 1) (t 1).length (c 1)) ∧ W'.cell? ⟨w.heap.size, 2, none⟩ = some (.slice (a 2) (t 2).length (c 2)) ∧ W'.cell? ⟨w.heap.size, 3, none⟩ = some (.slice (a 3) (t 3).length (c 3)) ∧ W'.cell? ⟨w.heap.size, 4, none⟩ = some (.slice (a 4) (t 4).length (c 4)) ∧ W'.cell? ⟨w.heap.size, 5, none⟩ = some (.slice (a 5) (t 5).length (c 5)) ∧ W'.cell? ⟨w.heap.size, 6, none⟩ = some (.slice (a 6) (t 6).length (c 6)) ∧ W'.cell? ⟨w.heap.size, 7, none⟩ = some (.slice (a 7) (t 7).length (c 7)) ∧ W'.cell? ⟨w.heap.size, 8, none⟩ = some (.slice (a 8) (t 8).length (c 8)) ∧ W'.cell? ⟨w.heap.size, 9, none⟩ = some (.slice (a 9) (t 9).length (c 9)) ∧ W'.cell? ⟨w.heap.size, 10, none⟩ = some (.slice (a 10) (t 10).length (c 10))) ∧ W'.cell? ⟨mb, moff + k, none⟩ = some (.int .i32 r)) (exact HSm.out _ (by assumption)) (first
            | (go_at_call 20; refine (HDk.out _ (by assumption)).mono ?_; rintro e wD ⟨rfl, hbD⟩; have hzD := HT.out _ _ (by assumption) hbD))
          by_cases hd10 : d = 10
          · have hd' : (d != 10) = false := by simpa using hd10
            have HN1 := Hid.mk' (HNX.out hd10)
            have OD : Hid (wD.ownsRow B 21 1 (.slice ab L.length cb) L.length (L.map (Value.int .i32))) := owns_below HOd.out hbD
            have hsD : B ≤ wD.heap.size := Nat.le_trans HBs.out hbD.size
            have ckD := (HSm.out _ hzD).2
            obtain ⟨L', hL'⟩ : ∃ x, x = L ++ [r] := ⟨_, rfl⟩
            have HL2 : Hid (L' = l ++ m.take (k + 1)) := hL'.trans HLx.out
            have HL' := Hid.mk' hL'
            have OA : Hid ((wD.alloc (.cells #[.int .i32 r] 21)).ownsRow B 21 1 (.slice ab L.length cb) L.length (L.map (Value.int .i32))) := owns_below OD.out ((Below.refl _ _).alloc (Nat.le_refl _) _)
            have VA := Hid.mk' (one_rune wD r)
            have BA : Hid (Below W0.heap.size W0 (wD.alloc (.cells #[.int .i32 r] 21))) := hzD.alloc hzD.size _
            have HSB : Hid (B ≤ (wD.alloc (.cells #[.int .i32 r] 21)).heap.size) := by show _ ≤ _; rw [World.size_alloc]; omega
            clear hd10 hL' HNX HSm HDk HO HOd hb2 hbd2 hbD hzD hsD OD
            go_wp2_with (at_builtin; (refine wpList_append_runes rfl _ _ rfl B _ L rfl OA.out _ [r] rfl VA.out (by simp; omega) (by first | (simp; done) | (simp; omega) | exact HSB.out) ?_); intro v9 w9 ho9 hg9; have O9 : Hid (w9.ownsRow B 21 1 v9 L'.length (L'.map (Value.int .i32))) := (by show World.ownsRow _ _ _ _ _ _ _; rw [HL'.out]; exact ho9); have B9 : Hid (Below W0.heap.size W0 w9) := BA.out.grown hg9 (by first | exact BA.out.size | (simp; omega)) (fun j hj => by have := (OA.out.lt j hj).1; have := HBB.out; omega); have S9 : Hid (B ≤ w9.heap.size) := Nat.le_trans HSB.out hg9.size; obtain ⟨a9, c9, rfl⟩ := own_slice O9.out; clear ho9 hg9)
            go_roundw
            case rel => exact ⟨k + 1, L', a9, c9, rfl, by go_num, by omega, HL2, HN1, O9, B9.out, S9⟩
            case measure => simp [intOf]; omega
          · have hd' : (d != 10) = true := by simpa using hd10
            have HBD := Hid.mk' (HB.out _ hzD)
            clear hd10 HNX HSm HDk HO HOd hb2 hbd2 hbD hzD
            go_wp2
            go_ret
            exact ⟨rfl, HBD.out⟩
        · obtain rfl : k = m.length := by omega
          have HLf : Hid (L = l ++ m) := HL.out.trans (by rw [List.take_length])
          have HBk := Hid.mk' (HBT.out _ ab cb L hb2 HN.out HLf.out (Runes.own HO.out))
          have HRk : Hid (∀ (W : World) (x : Value), Below _ _ W → (x = Value.slice ab L.length cb ∨ x = Value.slice (some ⟨b, off, none⟩) l.length vcap) → _) := fun W x hb hx => HRT.out W ab cb L x (hb2.trans (hb.mono hb2.size)) HN.out HLf.out ((Runes.own HO.out).below hb) hx
          have HTk := Hid.mk' (below_tr hb2)
          have HPk : Hid (∀ W, Below _ _ W → _) := fun W hb => HP.out W (hb2.trans (hb.mono hb2.size))
          have HBX : Hid (∀ W, Below _ _ W → _) := fun W hb => HB.out W (hb2.trans (hb.mono hb2.size))
          obtain ⟨x0, x1, x2, x3, x4, x5, x6, x7, x8, x9, x10⟩ := HP.out _ hb2
          clear HVM HDM HL HN HBT HRT HO hlt2
          go_wp2_with fail
          refine HBk.out.mono ?_
          rintro e w11 ⟨rfl, hb11⟩
          have hb11d := hb11.drew
          clear HBk x0 x1 x2 x3 x4 x5 x6 x7 x8 x9 x10
          go_wp2
          go_region_held3 (fun W' => (W'.cell? ⟨w.heap.size, 0, none⟩ = some (.slice (a 0) (t 0).length (c 0)) ∧ W'.cell? ⟨w.heap.size, 1, none⟩ = some (.slice (a 1) (t 1).length (c 1)) ∧ W'.cell? ⟨w.heap.size, 2, none⟩ = some (.slice (a 2) (t 2).length (c 2)) ∧ W'.cell? ⟨w.heap.size, 3, none⟩ = some (.slice (a 3) (t 3).length (c 3)) ∧ W'.cell? ⟨w.heap.size, 4, none⟩ = some (.slice (a 4) (t 4).length (c 4)) ∧ W'.cell? ⟨w.heap.size, 5, none⟩ = some (.slice (a 5) (t 5).length (c 5)) ∧ W'.cell? ⟨w.heap.size, 6, none⟩ = some (.slice (a 6) (t 6).length (c 6)) ∧ W'.cell? ⟨w.heap.size, 7, none⟩ = some (.slice (a 7) (t 7).length (c 7)) ∧ W'.cell? ⟨w.heap.size, 8, none⟩ = some (.slice (a 8) (t 8).length (c 8)) ∧ W'.cell? ⟨w.heap.size, 9, none⟩ = some (.slice (a 9) (t 9).length (c 9)) ∧ W'.cell? ⟨w.heap.size, 10, none⟩ = some (.slice (a 10) (t 10).length (c 10)))) (exact HPk.out _ (by assumption)) (first
            | (go_at_call 13; refine (HRk.out _ _ (by assumption) ?_).mono ?_; (first | exact .inl rfl | exact .inr rfl); rintro e wR ⟨rfl, hbR⟩; have hzR := HTk.out _ _ (by assumption) hbR))
          have HBR := Hid.mk' (HBX.out _ hzR)
          go_wp2
          go_ret
          exact ⟨rfl, HBR.out⟩
    · have hd0 : decide ((0 : Int) < (k : Int)) = true := decide_eq_true (by omega)
      have hd0' : decide (0 < k) = true := decide_eq_true (by omega)
      have hkz : (k : Int) < (l.length : Int) := by omega
      by_cases hz : ds.getD k 0 = 10
      · have HA1 : Hid (endF ds (k - 1 + 1) = E) := by show _ = _; rw [show k - 1 + 1 = k by omega]; exact HPE.out _ hz HA.out
        have HSk : Hid (∀ W, Below W0.heap.size W0 W → (W.cell? ⟨w.heap.size, 0, none⟩ = some (.slice (a 0) (t 0).length (c 0)) ∧ W.cell? ⟨w.heap.size, 1, none⟩ = some (.slice (a 1) (t 1).length (c 1)) ∧ W.cell? ⟨w.heap.size, 2, none⟩ = some (.slice (a 2) (t 2).length (c 2)) ∧ W.cell? ⟨w.heap.size, 3, none⟩ = some (.slice (a 3) (t 3).length (c 3)) ∧ W.cell? ⟨w.heap.size, 4, none⟩ = some (.slice (a 4) (t 4).length (c 4)) ∧ W.cell? ⟨w.heap.size, 5, none⟩ = some (.slice (a 5) (t 5).length (c 5)) ∧ W.cell? ⟨w.heap.size, 6, none⟩ = some (.slice (a 6) (t 6).length (c 6)) ∧ W.cell? ⟨w.heap.size, 7, none⟩ = some (.slice (a 7) (t 7).length (c 7)) ∧ W.cell? ⟨w.heap.size, 8, none⟩ = some (.slice (a 8) (t 8).length (c 8)) ∧ W.cell? ⟨w.heap.size, 9, none⟩ = some (.slice (a 9) (t 9).length (c 9)) ∧ W.cell? ⟨w.heap.size, 10, none⟩ = some (.slice (a 10) (t 10).length (c 10))) ∧ W.cell? ⟨b, off + k, none⟩ = some (.int .i32 (l.getD k 0))) := fun W hb => by
          obtain ⟨b', off', e, q⟩ := HV.out W hb k hk
          injection e with e
          injection e with e1 e2
          subst e1 e2
          exact ⟨HP.out W hb, q⟩
        have HDk : Hid (∀ W, Below W0.heap.size W0 W → _) := fun W hb => HD.out W k hb hk
        rw [hz] at HDk
        have HK1 : Hid ((k : Int) - 1 = ((k - 1 : Nat) : Int)) := by show _ = _; omega
        generalize l.getD k 0 = r at *
        clear HHE HPE HA HD HV hz HBT HRT HVM HDM HVZ HENDS HKE HDE HK0 HD0
        go_wp2
        go_region_held3 (fun W' => (W'.cell? ⟨w.heap.size, 0, none⟩ = some (.slice (a 0) (t 0).length (c 0)) ∧ W'.cell? ⟨w.heap.size, 1, none⟩ = some (.slice (a 1) (t 1).length (c 1)) ∧ W'.cell? ⟨w.heap.size, 2, none⟩ = some (.slice (a 2) (t 2).length (c 2)) ∧ W'.cell? ⟨w.heap.size, 3, none⟩ = some (.slice (a 3) (t 3).length (c 3)) ∧ W'.cell? ⟨w.heap.size, 4, none⟩ = some (.slice (a 4) (t 4).length (c 4)) ∧ W'.cell? ⟨w.heap.size, 5, none⟩ = some (.slice (a 5) (t 5).length (c 5)) ∧ W'.cell? ⟨w.heap.size, 6, none⟩ = some (.slice (a 6) (t 6).length (c 6)) ∧ W'.cell? ⟨w.heap.size, 7, none⟩ = some (.slice (a 7) (t 7).length (c 7)) ∧ W'.cell? ⟨w.heap.size, 8, none⟩ = some (.slice (a 8) (t 8).length (c 8)) ∧ W'.cell? ⟨w.heap.size, 9, none⟩ = some (.slice (a 9) (t 9).length (c 9)) ∧ W'.cell? ⟨w.heap.size, 10, none⟩ = some (.slice (a 10) (t 10).length (c 10))) ∧ W'.cell? ⟨b, off + k, none⟩ = some (.int .i32 r)) (exact HSk.out _ (by assumption)) (first
          | (go_at_call 20; refine (HDk.out _ (by assumption)).mono ?_; rintro e wA ⟨rfl, hbA⟩; have hzA := HT.out _ _ (by assumption) hbA))
        clear HSk HDk hb hbd hbA
        go_wp2
        go_roundw
        case rel => exact ⟨k - 1, by omega, by rw [HK1.out], HA1, hzA⟩
        case measure => simp [intOf]; omega
      · have hE0 : k = E := HHE.out k hz HA.out
        subst hE0
        have hz' : (ds.getD k 0 == 10) = false := by simpa using hz
        clear HHE HPE HA HES H10 HD hk0 hz
        generalize ds.getD k 0 = z at *
        generalize ds.getD 0 0 = d0 at *
        generalize l.getD k 0 = rE at *
        generalize l.getD 0 0 = r0 at *
        go_wp2
        go_region_held3 (fun W' => (W'.cell? ⟨w.heap.size, 0, none⟩ = some (.slice (a 0) (t 0).length (c 0)) ∧ W'.cell? ⟨w.heap.size, 1, none⟩ = some (.slice (a 1) (t 1).length (c 1)) ∧ W'.cell? ⟨w.heap.size, 2, none⟩ = some (.slice (a 2) (t 2).length (c 2)) ∧ W'.cell? ⟨w.heap.size, 3, none⟩ = some (.slice (a 3) (t 3).length (c 3)) ∧ W'.cell? ⟨w.heap.size, 4, none⟩ = some (.slice (a 4) (t 4).length (c 4)) ∧ W'.cell? ⟨w.heap.size, 5, none⟩ = some (.slice (a 5) (t 5).length (c 5)) ∧ W'.cell? ⟨w.heap.size, 6, none⟩ = some (.slice (a 6) (t 6).length (c 6)) ∧ W'.cell? ⟨w.heap.size, 7, none⟩ = some (.slice (a 7) (t 7).length (c 7)) ∧ W'.cell? ⟨w.heap.size, 8, none⟩ = some (.slice (a 8) (t 8).length (c 8)) ∧ W'.cell? ⟨w.heap.size, 9, none⟩ = some (.slice (a 9) (t 9).length (c 9)) ∧ W'.cell? ⟨w.heap.size, 10, none⟩ = some (.slice (a 10) (t 10).length (c 10))) ∧ W'.cell? ⟨b, off + k, none⟩ = some (.int .i32 rE)) (exact HKE.out _ (by assumption)) (first
          | (go_at_call 20; refine (HDE.out _ (by assumption)).mono ?_; rintro e wA ⟨rfl, hbA⟩; have hzA := HT.out _ _ (by assumption) hbA))
        clear hb hbd hbA
        have hbd := hzA.drew
        go_wp2
        go_region_held3 (fun W' => (W'.cell? ⟨w.heap.size, 0, none⟩ = some (.slice (a 0) (t 0).length (c 0)) ∧ W'.cell? ⟨w.heap.size, 1, none⟩ = some (.slice (a 1) (t 1).length (c 1)) ∧ W'.cell? ⟨w.heap.size, 2, none⟩ = some (.slice (a 2) (t 2).length (c 2)) ∧ W'.cell? ⟨w.heap.size, 3, none⟩ = some (.slice (a 3) (t 3).length (c 3)) ∧ W'.cell? ⟨w.heap.size, 4, none⟩ = some (.slice (a 4) (t 4).length (c 4)) ∧ W'.cell? ⟨w.heap.size, 5, none⟩ = some (.slice (a 5) (t 5).length (c 5)) ∧ W'.cell? ⟨w.heap.size, 6, none⟩ = some (.slice (a 6) (t 6).length (c 6)) ∧ W'.cell? ⟨w.heap.size, 7, none⟩ = some (.slice (a 7) (t 7).length (c 7)) ∧ W'.cell? ⟨w.heap.size, 8, none⟩ = some (.slice (a 8) (t 8).length (c 8)) ∧ W'.cell? ⟨w.heap.size, 9, none⟩ = some (.slice (a 9) (t 9).length (c 9)) ∧ W'.cell? ⟨w.heap.size, 10, none⟩ = some (.slice (a 10) (t 10).length (c 10))) ∧ W'.cell? ⟨b, off + k, none⟩ = some (.int .i32 rE)) (exact HKE.out _ (by assumption)) (first
          | (go_at_call 20; refine (HDE.out _ (by assumption)).mono ?_; rintro e wB ⟨rfl, hbB⟩; have hzB := HT.out _ _ (by assumption) hbB))
        have hzBd := hzB.drew
        clear hbB
        obtain ⟨bl, hbl⟩ : ∃ bl, (d0 == 1) = bl := ⟨_, rfl⟩
        have HENB : Hid ((bl = true ∧ ((z != 1) = false ∨ ((z != 1) = true ∧ (z != 4) = false))) ∨ (bl = false ∧ ((z != 2) = false ∨ ((z != 2) = true ∧ (z != 3) = false) ∨ ((z != 2) = true ∧ (z != 3) = true ∧ (z != 4) = false) ∨ ((z != 2) = true ∧ (z != 3) = true ∧ (z != 4) = true ∧ (z != 5) = false)))) := by
          rw [← hbl]
          rcases HENDS.out with ⟨q0, q | q⟩ | ⟨q0, q1, q2⟩
          · exact .inl ⟨by simpa using q0, .inl (by simpa using q)⟩
          · exact .inl ⟨by simpa using q0, .inr ⟨by rw [q]; rfl, by simpa using q⟩⟩
          · refine .inr ⟨by simpa using q0, ?_⟩
            rcases (by omega : z = 2 ∨ z = 3 ∨ z = 4 ∨ z = 5) with q | q | q | q
            · exact .inl (by simpa using q)
            · exact .inr (.inl ⟨by rw [q]; rfl, by simpa using q⟩)
            · exact .inr (.inr (.inl ⟨by rw [q]; rfl, by rw [q]; rfl, by simpa using q⟩))
            · exact .inr (.inr (.inr ⟨by rw [q]; rfl, by rw [q]; rfl, by rw [q]; rfl, by simpa using q⟩))
        clear HENDS
        go_wp2
        go_region_held3 (fun W' => (W'.cell? ⟨w.heap.size, 0, none⟩ = some (.slice (a 0) (t 0).length (c 0)) ∧ W'.cell? ⟨w.heap.size, 1, none⟩ = some (.slice (a 1) (t 1).length (c 1)) ∧ W'.cell? ⟨w.heap.size, 2, none⟩ = some (.slice (a 2) (t 2).length (c 2)) ∧ W'.cell? ⟨w.heap.size, 3, none⟩ = some (.slice (a 3) (t 3).length (c 3)) ∧ W'.cell? ⟨w.heap.size, 4, none⟩ = some (.slice (a 4) (t 4).length (c 4)) ∧ W'.cell? ⟨w.heap.size, 5, none⟩ = some (.slice (a 5) (t 5).length (c 5)) ∧ W'.cell? ⟨w.heap.size, 6, none⟩ = some (.slice (a 6) (t 6).length (c 6)) ∧ W'.cell? ⟨w.heap.size, 7, none⟩ = some (.slice (a 7) (t 7).length (c 7)) ∧ W'.cell? ⟨w.heap.size, 8, none⟩ = some (.slice (a 8) (t 8).length (c 8)) ∧ W'.cell? ⟨w.heap.size, 9, none⟩ = some (.slice (a 9) (t 9).length (c 9)) ∧ W'.cell? ⟨w.heap.size, 10, none⟩ = some (.slice (a 10) (t 10).length (c 10))) ∧ W'.cell? ⟨b, off, none⟩ = some (.int .i32 r0)) (exact HK0.out _ (by assumption)) (first
          | (go_at_call 20; refine (HD0.out _ (by assumption)).mono ?_; rintro e wC ⟨rfl, hbC⟩; have hzC := HT.out _ _ (by assumption) hbC))
        clear hzBd hbC hzB HKE HDE HK0 HD0
        go_upto_region 15 with fail
        go_cut [104] from 76 to 103 (fun x wx => x = .bool false ∧ wC = wx)
        case first =>
          rcases HENB.out with ⟨rfl, f1 | ⟨f1, f4⟩⟩ | ⟨rfl, f2 | ⟨f2, f3⟩ | ⟨f2, f3, f4⟩ | ⟨f2, f3, f4, f5⟩⟩
          all_goals
            clear HENB
            go_wp2
            go_meet
            case rel => exact ⟨rfl, rfl⟩
        case rest =>
        obtain ⟨rfl, rfl⟩ := hcut
        clear HENB hbl
        have O6 := Hid.mk' (own_new wC wC.heap.size [] 21 (Nat.le_refl _) (by simp))
        have B6 : Hid (Below wC.heap.size wC (wC.alloc (.cells #[] 21))) := (Below.refl _ _).alloc (Nat.le_refl _) _
        have V6 : Hid (RunesZ (wC.alloc (.cells #[] 21)) (.slice (some ⟨b, off, none⟩) l.length vcap) l) := HVZ.out _ (hzC.trans (B6.out.mono hzC.size))
        go_wp2_with (at_builtin; (refine wpList_append_runes rfl _ _ rfl wC.heap.size _ [] rfl O6.out _ l rfl V6.out (by simp; omega) (by first | (simp; done) | (simp; omega) | exact B6.out.size) ?_); intro v7 w7 ho7 hg7; have O7 : Hid (w7.ownsRow wC.heap.size 21 1 v7 l.length (l.map (Value.int .i32))) := (by show World.ownsRow _ _ _ _ _ _ _; simpa using ho7); have B7 : Hid (Below wC.heap.size wC w7) := B6.out.grown hg7 (by first | (simp; done) | (simp; omega) | exact B6.out.size) (fun j hj => (O6.out.lt j hj).1); obtain ⟨a7, c7, rfl⟩ := own_slice O7.out; clear ho7 hg7)
        have hz7 := hzC.trans (B7.out.mono hzC.size)
        obtain ⟨B, hB⟩ : ∃ B, wC.heap.size = B := ⟨_, rfl⟩
        have HBB : Hid (W0.heap.size ≤ B) := by show _ ≤ _; rw [← hB]; exact hzC.size
        have HB7 : Hid (B ≤ w7.heap.size) := by show _ ≤ _; rw [← hB]; exact B7.out.size
        rw [hB] at O7
        clear O6 B6 V6 B7 hzC hB HVZ
        go_loopw [12, 13] (fun x12 x13 wr2 => ∃ (k : Nat) (L : List Int) (ab : Option Addr) (cb : Nat), x12 = .slice ab L.length cb ∧ x13 = .int .i64 k ∧ k ≤ m.length ∧ Hid (L = l ++ m.take k) ∧ Hid (∀ j, j < k → dm.getD j 0 = 10) ∧ Hid (wr2.ownsRow B 21 1 (.slice ab L.length cb) L.length (L.map (Value.int .i32))) ∧ Below W0.heap.size W0 wr2 ∧ Hid (B ≤ wr2.heap.size)) (fun _ x13 _ => m.length - (intOf x13).toNat)
        case atStart => exact ⟨0, l, a7, c7, rfl, rfl, Nat.zero_le _, (by show _ = _; simp), fun j hj => by omega, O7, hz7, HB7⟩
        case round =>
          clear hz7 O7 HB7
          obtain ⟨k, L, ab, cb, rfl, rfl, hkm, HL, HN, HO, hb2, HBs⟩ := hrel
          by_cases hlt2 : k < m.length
          · obtain ⟨mb, moff, rfl, -⟩ := HVM.out _ hb2 k hlt2
            have HSm : Hid (∀ W, Below W0.heap.size W0 W → (W.cell? ⟨w.heap.size, 0, none⟩ = some (.slice (a 0) (t 0).length (c 0)) ∧ W.cell? ⟨w.heap.size, 1, none⟩ = some (.slice (a 1) (t 1).length (c 1)) ∧ W.cell? ⟨w.heap.size, 2, none⟩ = some (.slice (a 2) (t 2).length (c 2)) ∧ W.cell? ⟨w.heap.size, 3, none⟩ = some (.slice (a 3) (t 3).length (c 3)) ∧ W.cell? ⟨w.heap.size, 4, none⟩ = some (.slice (a 4) (t 4).length (c 4)) ∧ W.cell? ⟨w.heap.size, 5, none⟩ = some (.slice (a 5) (t 5).length (c 5)) ∧ W.cell? ⟨w.heap.size, 6, none⟩ = some (.slice (a 6) (t 6).length (c 6)) ∧ W.cell? ⟨w.heap.size, 7, none⟩ = some (.slice (a 7) (t 7).length (c 7)) ∧ W.cell? ⟨w.heap.size, 8, none⟩ = some (.slice (a 8) (t 8).length (c 8)) ∧ W.cell? ⟨w.heap.size, 9, none⟩ = some (.slice (a 9) (t 9).length (c 9)) ∧ W.cell? ⟨w.heap.size, 10, none⟩ = some (.slice (a 10) (t 10).length (c 10))) ∧ W.cell? ⟨mb, moff + k, none⟩ = some (.int .i32 (m.getD k 0))) := fun W hb => by
              obtain ⟨b', off', e, q⟩ := HVM.out W hb k hlt2
              injection e with e
              injection e with e1 e2
              subst e1 e2
              exact ⟨HP.out W hb, q⟩
            have HDk : Hid (∀ W, Below W0.heap.size W0 W → _) := fun W hb => HDM.out W k hb hlt2
            have HNX : Hid (dm.getD k 0 = 10 → ∀ j, j < k + 1 → dm.getD j 0 = 10) := fun e j hj => by
              rcases Nat.lt_or_ge j k with q | q
              · exact HN.out j q
              · obtain rfl : j = k := by omega
                exact e
            have HTK := Hid.mk' (take_succ_getD hlt2)
            have hbd2 := hb2.drew
            have HOd := Hid.mk' (owns_drew HO.out)
            have hkmz : (k : Int) < (m.length : Int) := by omega
            have hLl : L.length ≤ 25 := by rw [HL.out, List.length_append, List.length_take]; omega
            have HLx : Hid (L ++ [m.getD k 0] = l ++ m.take (k + 1)) := by show _ = _; rw [HTK.out, HL.out, List.append_assoc]
            generalize dm.getD k 0 = d at *
            generalize m.getD k 0 = r at *
            clear HVM HDM HL HN HTK HBT HRT
            go_wp2
            go_region_held3 (fun W' => (W'.cell? ⟨w.heap.size, 0, none⟩ = some (.slice (a 0) (t 0).length (c 0)) ∧ W'.cell? ⟨w.heap.size, 1, none⟩ = some (.slice (a 1) (t 1).length (c 1)) ∧ W'.cell? ⟨w.heap.size, 2, none⟩ = some (.slice (a 2) (t 2).length (c 2)) ∧ W'.cell? ⟨w.heap.size, 3, none⟩ = some (.slice (a 3) (t 3).length (c 3)) ∧ W'.cell? ⟨w.heap.size, 4, none⟩ = some (.slice (a 4) (t 4).length (c 4)) ∧ W'.cell? ⟨w.heap.size, 5, none⟩ = some (.slice (a 5) (t 5).length (c 5)) ∧ W'.cell? ⟨w.heap.size, 6, none⟩ = some (.slice (a 6) (t 6).length (c 6)) ∧ W'.cell? ⟨w.heap.size, 7, none⟩ = some (.slice (a 7) (t 7).length (c 7)) ∧ W'.cell? ⟨w.heap.size, 8, none⟩ = some (.slice (a 8) (t 8).length (c 8)) ∧ W'.cell? ⟨w.heap.size, 9, none⟩ = some (.slice (a 9) (t 9).length (c 9)) ∧ W'.cell? ⟨w.heap.size, 10, none⟩ = some (.slice (a 10) (t 10).length (c 10))) ∧ W'.cell? ⟨mb, moff + k, none⟩ = some (.int .i32 r)) (exact HSm.out _ (by assumption)) (first
              | (go_at_call 20; refine (HDk.out _ (by assumption)).mono ?_; rintro e wD ⟨rfl, hbD⟩; have hzD := HT.out _ _ (by assumption) hbD))
            by_cases hd10 : d = 10
            · have hd' : (d != 10) = false := by simpa using hd10
              have HN1 := Hid.mk' (HNX.out hd10)
              have OD : Hid (wD.ownsRow B 21 1 (.slice ab L.length cb) L.length (L.map (Value.int .i32))) := owns_below HOd.out hbD
              have hsD : B ≤ wD.heap.size := Nat.le_trans HBs.out hbD.size
              have ckD := (HSm.out _ hzD).2
              obtain ⟨L', hL'⟩ : ∃ x, x = L ++ [r] := ⟨_, rfl⟩
              have HL2 : Hid (L' = l ++ m.take (k + 1)) := hL'.trans HLx.out
              have HL' := Hid.mk' hL'
              have OA : Hid ((wD.alloc (.cells #[.int .i32 r] 21)).ownsRow B 21 1 (.slice ab L.length cb) L.length (L.map (Value.int .i32))) := owns_below OD.out ((Below.refl _ _).alloc (Nat.le_refl _) _)
              have VA := Hid.mk' (one_rune wD r)
              have BA : Hid (Below W0.heap.size W0 (wD.alloc (.cells #[.int .i32 r] 21))) := hzD.alloc hzD.size _
              have HSB : Hid (B ≤ (wD.alloc (.cells #[.int .i32 r] 21)).heap.size) := by show _ ≤ _; rw [World.size_alloc]; omega
              clear hd10 hL' HNX HSm HDk HO HOd hb2 hbd2 hbD hzD hsD OD
              go_wp2_with (at_builtin; (refine wpList_append_runes rfl _ _ rfl B _ L rfl OA.out _ [r] rfl VA.out (by simp; omega) (by first | (simp; done) | (simp; omega) | exact HSB.out) ?_); intro v9 w9 ho9 hg9; have O9 : Hid (w9.ownsRow B 21 1 v9 L'.length (L'.map (Value.int .i32))) := (by show World.ownsRow _ _ _ _ _ _ _; rw [HL'.out]; exact ho9); have B9 : Hid (Below W0.heap.size W0 w9) := BA.out.grown hg9 (by first | exact BA.out.size | (simp; omega)) (fun j hj => by have := (OA.out.lt j hj).1; have := HBB.out; omega); have S9 : Hid (B ≤ w9.heap.size) := Nat.le_trans HSB.out hg9.size; obtain ⟨a9, c9, rfl⟩ := own_slice O9.out; clear ho9 hg9)
              go_roundw
              case rel => exact ⟨k + 1, L', a9, c9, rfl, by go_num, by omega, HL2, HN1, O9, B9.out, S9⟩
              case measure => simp [intOf]; omega
            · have hd' : (d != 10) = true := by simpa using hd10
              have HBD := Hid.mk' (HB.out _ hzD)
              clear hd10 HNX HSm HDk HO HOd hb2 hbd2 hbD hzD
              go_wp2
              go_ret
              exact ⟨rfl, HBD.out⟩
          · obtain rfl : k = m.length := by omega
            have HLf : Hid (L = l ++ m) := HL.out.trans (by rw [List.take_length])
            have HBk := Hid.mk' (HBT.out _ ab cb L hb2 HN.out HLf.out (Runes.own HO.out))
            have HRk : Hid (∀ (W : World) (x : Value), Below _ _ W → (x = Value.slice ab L.length cb ∨ x = Value.slice (some ⟨b, off, none⟩) l.length vcap) → _) := fun W x hb hx => HRT.out W ab cb L x (hb2.trans (hb.mono hb2.size)) HN.out HLf.out ((Runes.own HO.out).below hb) hx
            have HTk := Hid.mk' (below_tr hb2)
            have HPk : Hid (∀ W, Below _ _ W → _) := fun W hb => HP.out W (hb2.trans (hb.mono hb2.size))
            have HBX : Hid (∀ W, Below _ _ W → _) := fun W hb => HB.out W (hb2.trans (hb.mono hb2.size))
            obtain ⟨x0, x1, x2, x3, x4, x5, x6, x7, x8, x9, x10⟩ := HP.out _ hb2
            clear HVM HDM HL HN HBT HRT HO hlt2
            go_wp2_with fail
            refine HBk.out.mono ?_
            rintro e w11 ⟨rfl, hb11⟩
            have hb11d := hb11.drew
            clear HBk x0 x1 x2 x3 x4 x5 x6 x7 x8 x9 x10
            go_wp2
            go_region_held3 (fun W' => (W'.cell? ⟨w.heap.size, 0, none⟩ = some (.slice (a 0) (t 0).length (c 0)) ∧ W'.cell? ⟨w.heap.size, 1, none⟩ = some (.slice (a 1) (t 1).length (c 1)) ∧ W'.cell? ⟨w.heap.size, 2, none⟩ = some (.slice (a 2) (t 2).length (c 2)) ∧ W'.cell? ⟨w.heap.size, 3, none⟩ = some (.slice (a 3) (t 3).length (c 3)) ∧ W'.cell? ⟨w.heap.size, 4, none⟩ = some (.slice (a 4) (t 4).length (c 4)) ∧ W'.cell? ⟨w.heap.size, 5, none⟩ = some (.slice (a 5) (t 5).length (c 5)) ∧ W'.cell? ⟨w.heap.size, 6, none⟩ = some (.slice (a 6) (t 6).length (c 6)) ∧ W'.cell? ⟨w.heap.size, 7, none⟩ = some (.slice (a 7) (t 7).length (c 7)) ∧ W'.cell? ⟨w.heap.size, 8, none⟩ = some (.slice (a 8) (t 8).length (c 8)) ∧ W'.cell? ⟨w.heap.size, 9, none⟩ = some (.slice (a 9) (t 9).length (c 9)) ∧ W'.cell? ⟨w.heap.size, 10, none⟩ = some (.slice (a 10) (t 10).length (c 10)))) (exact HPk.out _ (by assumption)) (first
              | (go_at_call 13; refine (HRk.out _ _ (by assumption) ?_).mono ?_; (first | exact .inl rfl | exact .inr rfl); rintro e wR ⟨rfl, hbR⟩; have hzR := HTk.out _ _ (by assumption) hbR))
            have HBR := Hid.mk' (HBX.out _ hzR)
            go_wp2
            go_ret
            exact ⟨rfl, HBR.out⟩
end Go.Proofs.YtcklfcoobccgcaaDoor

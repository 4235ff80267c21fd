/-
  What is proved here: that BidiNames answers true at any properties and any name.
-/
import Derived.Test.YtcklfcoobccgcaaDoorD8
import Derived.Test.YtcklfcoobccgcaaDoorD9
import Derived.Test.YtcklfcoobccgcaaDoorL4
namespace Go.Proofs.YtcklfcoobccgcaaDoor
open Go.RowKit Go.Shelf

theorem nameM_cases (dn : List (List Int)) : nameM dn = (0, 0) ∨ (nameM dn).2 = 12 := by
  unfold nameM
  split
  · exact .inr rfl
  · exact .inl rfl
set_option maxRecDepth 20000 in
set_option maxHeartbeats 16000000 in
theorem names9_any (w : World) (p : Nat → Addr) (hge : Gl p w ∧ Et w) (a : Nat → Option Addr) (c : Nat → Nat) (t : Nat → List Rg) (hT : PT w a c t) (na : Option Addr) (ncap : Nat) (av : Nat → Option Addr) (cv : Nat → Nat) (nm : List (List Int)) (hE : ElemC w na nm.length (fun j => .slice (av j) (nm.getD j []).length (cv j))) (hR : ∀ j, j < nm.length → Runes w (.slice (av j) (nm.getD j []).length (cv j)) (nm.getD j [])) :
    Calls Tryd.prog 4 #[PV a c t, .slice na nm.length ncap] w fun e w' => e = .returned (.bool true) ∧ Below w.heap.size w w' := by
  obtain ⟨hg, het⟩ := hge
  obtain ⟨W0, hW0, hsz0, hb0, hp⟩ := prop_box w a c t
  have HA := Hid.mk' (awake9_any W0)
  have HGr : Hid (∀ W, _) := fun W => greatP_any a c t W
  have HB : Hid (∀ W, Below W0.heap.size W0 W → Below w.heap.size w W) := fun W hb => hb0.trans (hb.mono hb0.size)
  have HP : Hid (∀ W, Below W0.heap.size W0 W → (W.cell? ⟨w.heap.size, 0, none⟩ = some (.slice (a 0) (t 0).length (c 0)) ∧ W.cell? ⟨w.heap.size, 1, none⟩ = some (.slice (a 1) (t 1).length (c 1)) ∧ W.cell? ⟨w.heap.size, 2, none⟩ = some (.slice (a 2) (t 2).length (c 2)) ∧ W.cell? ⟨w.heap.size, 3, none⟩ = some (.slice (a 3) (t 3).length (c 3)) ∧ W.cell? ⟨w.heap.size, 4, none⟩ = some (.slice (a 4) (t 4).length (c 4)) ∧ W.cell? ⟨w.heap.size, 5, none⟩ = some (.slice (a 5) (t 5).length (c 5)) ∧ W.cell? ⟨w.heap.size, 6, none⟩ = some (.slice (a 6) (t 6).length (c 6)) ∧ W.cell? ⟨w.heap.size, 7, none⟩ = some (.slice (a 7) (t 7).length (c 7)) ∧ W.cell? ⟨w.heap.size, 8, none⟩ = some (.slice (a 8) (t 8).length (c 8)) ∧ W.cell? ⟨w.heap.size, 9, none⟩ = some (.slice (a 9) (t 9).length (c 9)) ∧ W.cell? ⟨w.heap.size, 10, none⟩ = some (.slice (a 10) (t 10).length (c 10)))) := fun W hb => by
    have q := hp.below hb
    exact ⟨q 0 (by omega), q 1 (by omega), q 2 (by omega), q 3 (by omega), q 4 (by omega), q 5 (by omega), q 6 (by omega), q 7 (by omega), q 8 (by omega), q 9 (by omega), q 10 (by omega)⟩
  have HT : Hid (∀ W W', Below W0.heap.size W0 W → Below W.heap.size W W' → Below W0.heap.size W0 W') := fun W W' h1 h2 => h1.trans (h2.mono h1.size)
  have HV : Hid (∀ W, Below W0.heap.size W0 W → ∀ j, j < nm.length → ∃ b off, na = some ⟨b, off, none⟩ ∧ W.cell? ⟨b, off + j, none⟩ = some (.slice (av j) (nm.getD j []).length (cv j))) := fun W hb j hj => (hE.below hb0).below hb j hj
  have HFW : Hid (∀ W, Below W0.heap.size W0 W → _) := fun W hb => few_any na ncap av cv nm W ((hE.below hb0).below hb)
  cases hgr : great7 t
  rotate_left
  · rw [hgr] at HGr
    unfold PV at HGr ⊢
    clear hgr hg het hT hE hR hb0 hp HV HFW
    go_enter Tryd.func4, Tryd.ntmps4
    go_wp2_with fail
    refine HA.out.mono ?_
    rintro e w1 ⟨rfl, hb1⟩
    obtain ⟨x0, x1, x2, x3, x4, x5, x6, x7, x8, x9, x10⟩ := HP.out w1 hb1
    clear HA
    go_wp2_with fail
    refine (HGr.out w1).mono ?_
    rintro e w2 ⟨rfl, hb2⟩
    have HB2 := Hid.mk' (HB.out _ (HT.out _ _ hb1 hb2))
    clear HGr x0 x1 x2 x3 x4 x5 x6 x7 x8 x9 x10 hb1 hb2
    go_wp2
    go_ret
    exact ⟨rfl, HB2.out⟩
  rw [hgr] at HGr
  have hl7 := great7_false hgr
  have HRt : Hid (∀ W, Below W0.heap.size W0 W → _) := fun W hb => right7L_any a c t W ((hT.below hb0).below hb) (fun i hi => by have := hl7 i hi; omega)
  clear hgr
  by_cases hr : (chk7 t).2 = 0
  rotate_left
  · rw [decide_eq_false hr] at HRt
    unfold PV at HGr HRt ⊢
    clear hr hg het hT hE hR hb0 hp hl7 HV HFW
    go_enter Tryd.func4, Tryd.ntmps4
    go_wp2_with fail
    refine HA.out.mono ?_
    rintro e w1 ⟨rfl, hb1⟩
    obtain ⟨x0, x1, x2, x3, x4, x5, x6, x7, x8, x9, x10⟩ := HP.out w1 hb1
    clear HA
    go_wp2_with fail
    refine (HGr.out w1).mono ?_
    rintro e w2 ⟨rfl, hb2⟩
    have hz2 := HT.out _ _ hb1 hb2
    have HR2 := Hid.mk' (HRt.out w2 hz2)
    clear HGr HRt x0 x1 x2 x3 x4 x5 x6 x7 x8 x9 x10 hb1 hb2
    obtain ⟨x0, x1, x2, x3, x4, x5, x6, x7, x8, x9, x10⟩ := HP.out w2 hz2
    go_wp2_with fail
    refine HR2.out.mono ?_
    rintro e w3 ⟨rfl, hb3⟩
    have HB3 := Hid.mk' (HB.out _ (HT.out _ _ hz2 hb3))
    clear HR2 x0 x1 x2 x3 x4 x5 x6 x7 x8 x9 x10 hb3 hz2
    go_wp2
    go_ret
    exact ⟨rfl, HB3.out⟩
  rw [decide_eq_true hr] at HRt
  cases hfew : fewM nm
  · rw [hfew] at HFW
    unfold PV at HGr HRt ⊢
    clear hr hg het hT hE hR hb0 hp hl7 HV hfew
    go_enter Tryd.func4, Tryd.ntmps4
    go_wp2_with fail
    refine HA.out.mono ?_
    rintro e w1 ⟨rfl, hb1⟩
    obtain ⟨x0, x1, x2, x3, x4, x5, x6, x7, x8, x9, x10⟩ := HP.out w1 hb1
    clear HA
    go_wp2_with fail
    refine (HGr.out w1).mono ?_
    rintro e w2 ⟨rfl, hb2⟩
    have hz2 := HT.out _ _ hb1 hb2
    have HR2 := Hid.mk' (HRt.out w2 hz2)
    clear HGr HRt x0 x1 x2 x3 x4 x5 x6 x7 x8 x9 x10 hb1 hb2
    obtain ⟨x0, x1, x2, x3, x4, x5, x6, x7, x8, x9, x10⟩ := HP.out w2 hz2
    go_wp2_with fail
    refine HR2.out.mono ?_
    rintro e w3 ⟨rfl, hb3⟩
    have hz3 := HT.out _ _ hz2 hb3
    have HF3 := Hid.mk' (HFW.out w3 hz3)
    have HB3 := Hid.mk' (HB.out _ hz3)
    clear HR2 x0 x1 x2 x3 x4 x5 x6 x7 x8 x9 x10 hb3 hz2 HFW hz3
    go_wp2_with fail
    refine HF3.out.mono ?_
    rintro e w4 ⟨rfl, rfl⟩
    go_wp2
    go_ret
    exact ⟨rfl, HB3.out⟩
  rw [hfew] at HFW
  obtain ⟨hl8, hl16⟩ := fewM_true hfew
  clear hfew
  have hok : Ok (t 9) := right7_ok hr 9 (by omega)
  have HAS : ∀ W, Below W0.heap.size W0 W → AskedN W a c t na av cv nm := fun W hb => (AskedN.below ⟨hT 9 (by omega), hok, hE, hR, by omega, fun j hj => by have := hl16 j hj; omega, fun j hj => dirsM_dirs hr _⟩ hb0).below hb
  have HRN : Hid (∀ W, Below W0.heap.size W0 W → _) := fun W hb => refName9_any a c t na ncap av cv nm W (HAS W hb)
  have HNM : Hid (∀ W, Below W0.heap.size W0 W → _) := fun W hb => name_any a c t na ncap av cv nm W p ((hg.below hb0).below hb) (HAS W hb)
  have HMX : Hid (∀ W, Below W0.heap.size W0 W → _) := fun W hb => mixed_any a c t na ncap av cv nm W (HAS W hb)
  have HR9 : Hid (∀ W k, Below W0.heap.size W0 W → k < nm.length → (Calls Tryd.prog 14 #[PV a c t, .slice (av k) (nm.getD k []).length (cv k)] W fun e w' => e = .returned (.bool (rightM ((dirsN (t 9) nm).getD k []))) ∧ Below W.heap.size W w')) := fun W k hb hk => by
    rw [dirsN_at hk]
    exact refRight9_any a c t (av k) (cv k) _ W ((HAS W hb).one hk)
  have HIN : Hid (∀ W x, _) := fun W x => lawIs_none x W
  have HIF : Hid (∀ W v B x, Below W0.heap.size W0 W → Hid (Flt W v B x (p 12)) → _) := fun W v B x hb hf => lawIs_fault v B x 12 W p ((hg.below hb0).below hb) ((het.below hb0).below hb) (by simp [Code]) hf.out
  have hcs := nameM_cases (dirsN (t 9) nm)
  have HMF : Hid (mixF (dirsN (t 9) nm) nm.length = mixM (dirsN (t 9) nm)) := by rw [← dirsN_len (t 9) nm]; exact mixF_all _
  unfold PV at HGr HRt HRN HNM HMX HR9 ⊢
  generalize mixM (dirsN (t 9) nm) = mx at *
  generalize nameM (dirsN (t 9) nm) = x at *
  generalize dirsN (t 9) nm = dn at *
  obtain ⟨y1, y2⟩ := x
  simp only [] at HRN HNM hcs
  have hll : nm.length ≤ 1000000 := by omega
  clear hr hg het hT hE hR hb0 hp hl7 hok HAS hl8 hl16
  go_enter Tryd.func4, Tryd.ntmps4
  go_wp2_with fail
  refine HA.out.mono ?_
  rintro e w1 ⟨rfl, hb1⟩
  obtain ⟨x0, x1, x2, x3, x4, x5, x6, x7, x8, x9, x10⟩ := HP.out w1 hb1
  clear HA
  go_wp2_with fail
  refine (HGr.out w1).mono ?_
  rintro e w2 ⟨rfl, hb2⟩
  have hz2 := HT.out _ _ hb1 hb2
  have HR2 := Hid.mk' (HRt.out w2 hz2)
  clear HGr HRt x0 x1 x2 x3 x4 x5 x6 x7 x8 x9 x10 hb1 hb2
  obtain ⟨x0, x1, x2, x3, x4, x5, x6, x7, x8, x9, x10⟩ := HP.out w2 hz2
  go_wp2_with fail
  refine HR2.out.mono ?_
  rintro e w3 ⟨rfl, hb3⟩
  have hz3 := HT.out _ _ hz2 hb3
  have HF3 := Hid.mk' (HFW.out w3 hz3)
  clear HR2 x0 x1 x2 x3 x4 x5 x6 x7 x8 x9 x10 hb3 hz2 HFW
  go_wp2_with fail
  refine HF3.out.mono ?_
  rintro e w4 ⟨rfl, rfl⟩
  have HR4 := Hid.mk' (HRN.out w3 hz3)
  obtain ⟨x0, x1, x2, x3, x4, x5, x6, x7, x8, x9, x10⟩ := HP.out w3 hz3
  clear HF3 HRN
  go_wp2_with fail
  refine HR4.out.mono ?_
  rintro e w5 ⟨rfl, hb5⟩
  have hz5 := HT.out _ _ hz3 hb5
  clear HR4 x0 x1 x2 x3 x4 x5 x6 x7 x8 x9 x10 hb5 hz3
  go_wp2
  go_loopw [7, 8] (fun xm x wr => ∃ k : Nat, k ≤ nm.length ∧ x = .int .i64 k ∧ xm = .bool (mixF dn k) ∧ Below W0.heap.size W0 wr) (fun _ x _ => nm.length - (intOf x).toNat)
  case atStart => exact ⟨0, Nat.zero_le _, rfl, rfl, hz5⟩
  case round =>
    obtain ⟨k, hk, rfl, rfl, hb⟩ := hrel
    clear hz5
    by_cases hlt : k < nm.length
    · obtain ⟨b, off, rfl, -⟩ := HV.out wr hb k hlt
      have HSk : Hid (∀ W, Below W0.heap.size W0 W → (W.cell? ⟨w.heap.size, 0, none⟩ = some (.slice (a 0) (t 0).length (c 0)) ∧ W.cell? ⟨w.heap.size, 1, none⟩ = some (.slice (a 1) (t 1).length (c 1)) ∧ W.cell? ⟨w.heap.size, 2, none⟩ = some (.slice (a 2) (t 2).length (c 2)) ∧ W.cell? ⟨w.heap.size, 3, none⟩ = some (.slice (a 3) (t 3).length (c 3)) ∧ W.cell? ⟨w.heap.size, 4, none⟩ = some (.slice (a 4) (t 4).length (c 4)) ∧ W.cell? ⟨w.heap.size, 5, none⟩ = some (.slice (a 5) (t 5).length (c 5)) ∧ W.cell? ⟨w.heap.size, 6, none⟩ = some (.slice (a 6) (t 6).length (c 6)) ∧ W.cell? ⟨w.heap.size, 7, none⟩ = some (.slice (a 7) (t 7).length (c 7)) ∧ W.cell? ⟨w.heap.size, 8, none⟩ = some (.slice (a 8) (t 8).length (c 8)) ∧ W.cell? ⟨w.heap.size, 9, none⟩ = some (.slice (a 9) (t 9).length (c 9)) ∧ W.cell? ⟨w.heap.size, 10, none⟩ = some (.slice (a 10) (t 10).length (c 10))) ∧ W.cell? ⟨b, off + k, none⟩ = some (.slice (av k) (nm.getD k []).length (cv k))) := fun W hb => by
        obtain ⟨b', off', e, q⟩ := HV.out W hb k hlt
        injection e with e
        injection e with e1 e2
        subst e1 e2
        exact ⟨HP.out W hb, q⟩
      have HDk : Hid (∀ W, Below W0.heap.size W0 W → _) := fun W hb => HR9.out W k hb hlt
      have HS := Hid.mk' (mixF_succ dn k)
      have hbd := hb.drew
      have hklz : (k : Int) < (nm.length : Int) := by omega
      generalize rightM (dn.getD k []) = d at *
      generalize mixF dn k = m at *
      generalize av k = avk at *
      generalize cv k = cvk at *
      generalize (nm.getD k []).length = nk at *
      clear HV HR9 HNM HMX HIN HIF HMF hcs
      go_wp2
      cases m
      · skip
        go_region_held3 (fun W' => (W'.cell? ⟨w.heap.size, 0, none⟩ = some (.slice (a 0) (t 0).length (c 0)) ∧ W'.cell? ⟨w.heap.size, 1, none⟩ = some (.slice (a 1) (t 1).length (c 1)) ∧ W'.cell? ⟨w.heap.size, 2, none⟩ = some (.slice (a 2) (t 2).length (c 2)) ∧ W'.cell? ⟨w.heap.size, 3, none⟩ = some (.slice (a 3) (t 3).length (c 3)) ∧ W'.cell? ⟨w.heap.size, 4, none⟩ = some (.slice (a 4) (t 4).length (c 4)) ∧ W'.cell? ⟨w.heap.size, 5, none⟩ = some (.slice (a 5) (t 5).length (c 5)) ∧ W'.cell? ⟨w.heap.size, 6, none⟩ = some (.slice (a 6) (t 6).length (c 6)) ∧ W'.cell? ⟨w.heap.size, 7, none⟩ = some (.slice (a 7) (t 7).length (c 7)) ∧ W'.cell? ⟨w.heap.size, 8, none⟩ = some (.slice (a 8) (t 8).length (c 8)) ∧ W'.cell? ⟨w.heap.size, 9, none⟩ = some (.slice (a 9) (t 9).length (c 9)) ∧ W'.cell? ⟨w.heap.size, 10, none⟩ = some (.slice (a 10) (t 10).length (c 10))) ∧ W'.cell? ⟨b, off + k, none⟩ = some (.slice avk nk cvk)) (exact HSk.out _ (by assumption)) (first
          | (go_at_call 14; refine (HDk.out _ (by assumption)).mono ?_; rintro e wA ⟨rfl, hbA⟩; have hzA := HT.out _ _ (by assumption) hbA))
        have HS1 : Hid (mixF dn (k + 1) = d) := HS.out
        clear HS HSk HDk
        go_wp2
        go_roundw
        case rel => exact ⟨k + 1, by omega, by go_num, by rw [HS1.out], hzA⟩
        case measure => simp [intOf]; omega
      · go_region
        have HS1 : Hid (mixF dn (k + 1) = true) := HS.out
        clear HS HSk HDk
        go_wp2
        go_roundw
        case rel => exact ⟨k + 1, by omega, by go_num, by rw [HS1.out], hbd⟩
        case measure => simp [intOf]; omega
    · obtain rfl : k = nm.length := by omega
      have hmf := HMF.out
      generalize mixF dn nm.length = mf at *
      subst hmf
      have HN5 := Hid.mk' (HNM.out wr hb)
      obtain ⟨x0, x1, x2, x3, x4, x5, x6, x7, x8, x9, x10⟩ := HP.out wr hb
      clear HMF HV HR9 hlt hk HNM
      go_wp2_with fail
      refine HN5.out.mono ?_
      rintro e w6 ⟨fv, rfl, hs, hb6⟩
      have hz6 := HT.out _ _ hb hb6
      clear HN5 x0 x1 x2 x3 x4 x5 x6 x7 x8 x9 x10 hb6 hb
      rcases hs with ⟨hxy, rfl⟩ | ⟨hne, hf⟩
      · obtain ⟨rfl, rfl⟩ := Prod.mk.inj hxy
        have HI6 := Hid.mk' (HIN.out w6 0)
        have HM6 := Hid.mk' (HMX.out w6 hz6)
        obtain ⟨x0, x1, x2, x3, x4, x5, x6, x7, x8, x9, x10⟩ := HP.out w6 hz6
        clear HIN HIF HMX hcs hxy
        go_wp2_with fail
        refine HI6.out.mono ?_
        rintro e w7 ⟨rfl, rfl⟩
        clear HI6
        go_wp2_with fail
        refine HM6.out.mono ?_
        rintro e w8 ⟨rfl, hb8⟩
        have HB8 := Hid.mk' (HB.out _ (HT.out _ _ hz6 hb8))
        clear HM6 x0 x1 x2 x3 x4 x5 x6 x7 x8 x9 x10 hb8 hz6
        go_wp2
        go_ret
        exact ⟨rfl, HB8.out⟩
      · have h12 : y2 = 12 := by
          rcases hcs with q | q
          · exact absurd (Prod.mk.inj q).2 hne
          · exact q
        subst h12
        have HI6 := Hid.mk' (HIF.out w6 fv wr.heap.size y1 hz6 hf)
        obtain ⟨fb, -, rfl, -, -⟩ := hf
        clear HIN HIF hcs hne
        go_wp2_with fail
        refine HI6.out.mono ?_
        rintro e w7 ⟨rfl, hb7⟩
        have hz7 := HT.out _ _ hz6 hb7
        have HM6 := Hid.mk' (HMX.out w7 hz7)
        obtain ⟨x0, x1, x2, x3, x4, x5, x6, x7, x8, x9, x10⟩ := HP.out w7 hz7
        clear HI6 HMX hb7 hz6
        go_wp2_with fail
        refine HM6.out.mono ?_
        rintro e w8 ⟨rfl, hb8⟩
        have HB8 := Hid.mk' (HB.out _ (HT.out _ _ hz7 hb8))
        clear HM6 x0 x1 x2 x3 x4 x5 x6 x7 x8 x9 x10 hb8 hz7
        go_wp2
        go_ret
        exact ⟨rfl, HB8.out⟩
end Go.Proofs.YtcklfcoobccgcaaDoor

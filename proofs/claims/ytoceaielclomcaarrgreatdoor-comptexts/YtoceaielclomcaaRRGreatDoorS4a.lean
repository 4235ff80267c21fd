/-
  What is proved here: what slices.symMergeCmpFunc does to a row of runes, whatever it is.
-/
import Derived.Test.YtoceaielclomcaaRRGreatDoorS3
import Derived.Deep.CutRange
namespace Go.Proofs.YtoceaielclomcaaRRGreatDoor
open Go.RowKit Go.Sort

set_option maxRecDepth 20000 in
set_option maxHeartbeats 16000000 in
theorem symHigh_any (c : Int → Int) (g : Nat) (cb : Array Value) (cf : Int → Int → Int) (hcf : ∀ x y, decide (cf x y < 0) = decide (c x < c y)) (eg : ∀ args w, (callFunc g args).run Tryz.prog w = .ok (.enter g args) w) (w0 : World) (blk off cap : Nat) (L0 : List Int) (R : RL w0 blk off L0) (hcm : CmpL g cb cf blk off L0.length w0) (hs : L0.length ≤ 1073741824) (a m b mid : Nat) (L : List Int) (w : World) (ham : a < m) (hmb : m < b) (hm1 : ¬ m = a + 1) (hb1 : ¬ b = m + 1) (hmid : (a + b) / 2 = mid) (hside : mid < m) (hbl : b ≤ L.length) (hl : L.length = L0.length) (h1 : Srt c a m L) (h2 : Srt c m b L) (S : SL w0 blk off L w)
    (hrec : ∀ (a' m' b' : Nat) (L : List Int) (w : World), (a' = a ∧ b' = mid ∨ a' = mid ∧ b' = b) → a' < m' → m' < b' → L.length = L0.length → Srt c a' m' L → Srt c m' b' L → SL w0 blk off L w → Calls Tryz.prog 164 #[.slice (some ⟨blk, off, none⟩) L0.length cap, .int .i64 a', .int .i64 m', .int .i64 b', .func (.func g) #[] cb] w fun e w' => e = .returned (.tuple #[]) ∧ ∃ L', Bub c a' b' L L' ∧ Srt c a' b' L' ∧ SL w0 blk off L' w') :
    Calls Tryz.prog 164 #[.slice (some ⟨blk, off, none⟩) L0.length cap, .int .i64 a, .int .i64 m, .int .i64 b, .func (.func g) #[] cb] w fun e w' => e = .returned (.tuple #[]) ∧ ∃ L', Bub c a b L L' ∧ Srt c a b L' ∧ SL w0 blk off L' w' := by
  have mixed : Tryz.prog.follows .mixedOrders = true := by kernel_rfl
  have HREC := Hid.mk' hrec
  have hq1 := hm1
  clear hq1
  have HROT : Hid (∀ (P X Y Q : List Int) (s m' e' : Nat) (w : World), P.length = s → s + X.length = m' → m' + Y.length = e' → 0 < X.length → 0 < Y.length → (P ++ X ++ Y ++ Q).length = L0.length → SL w0 blk off (P ++ X ++ Y ++ Q) w → Calls Tryz.prog 166 #[.slice (some ⟨blk, off, none⟩) L0.length cap, .int .i64 s, .int .i64 m', .int .i64 e', .func (.func g) #[] cb] w fun e w' => e = .returned (.tuple #[]) ∧ SL w0 blk off (P ++ Y ++ X ++ Q) w') := fun P X Y Q s m' e' w hp hx hy hx0 hy0 hL hS => by
    subst hp hx hy
    exact rotate_any (.func g) cb w0 blk off cap L0 R P X Y Q hx0 hy0 hL (by omega) w hS
  have HR := Hid.mk' R
  have HC := Hid.mk' hcm
  have HCF := Hid.mk' hcf
  have HLL := Hid.mk' hl
  have S0 := Hid.mk' S
  have HST := Hid.mk' (⟨h1, h2⟩ : Srt c a m L ∧ Srt c m b L)
  obtain ⟨sz, hsz⟩ : ∃ sz, L0.length = sz := ⟨_, rfl⟩
  have hbs : b ≤ sz := by omega
  rw [hsz] at hs ⊢
  rw [hsz] at HREC HROT
  have HSZ := Hid.mk' hsz
  obtain ⟨da, hda⟩ : ∃ da : Nat, (m : Int) - (a : Int) = da := ⟨m - a, by omega⟩
  have hd1 : ((da : Int) == 1) = false := by simp; omega
  obtain ⟨db, hdb⟩ : ∃ db : Nat, (b : Int) - (m : Int) = db := ⟨b - m, by omega⟩
  have hd2 : ((db : Int) == 1) = false := by simp; omega
  have hmidz : ((a : Int) + (b : Int)) / 2 = (mid : Nat) := by omega
  have ham' : a < mid := by omega
  have hmb' : mid < b := by omega
  obtain ⟨n, hn⟩ : ∃ n : Nat, (mid : Int) + (m : Int) = n := ⟨mid + m, by omega⟩
  obtain ⟨p, hp⟩ : ∃ p : Nat, (n : Int) - 1 = p := ⟨n - 1, by omega⟩
  have hnz : n ≤ 2147483648 := by omega
  have hdaw : da ≤ 1073741824 := by omega
  have hdbw : db ≤ 1073741824 := by omega
  clear R hcm hcf h1 h2 hl S hsz hbl hm1 hb1 hmid hrec
  obtain ⟨lo, hnl⟩ : ∃ lo : Nat, (n : Int) - (b : Int) = lo := ⟨n - b, by omega⟩
  have hcd : decide (mid < m) = true := decide_eq_true hside
  have hlh : lo ≤ mid := by omega
  have hal : a ≤ lo := by omega
  have hhm : mid ≤ m := by omega
  have hnb : n ≤ b + lo := by omega
  have HQO : Hid (lo = a ∨ n = b + lo) := .inr (by omega)
  have HQI : Hid (mid = m ∨ mid = mid) := .inr rfl
  clear hside
  go_enter Tryz.func164, Tryz.ntmps164
  go_wp2
  go_loopw [20, 21] (fun x y wr => ∃ s r : Nat, x = .int .i64 s ∧ y = .int .i64 r ∧ lo ≤ s ∧ s ≤ r ∧ r ≤ mid ∧ Hid (s = lo ∨ c (L.getD (s - 1) 0) ≤ c (L.getD (n - s) 0)) ∧ Hid (r = mid ∨ c (L.getD (p - r) 0) < c (L.getD r 0)) ∧ Hid (SL w0 blk off L wr)) (fun x y _ => (intOf y).toNat - (intOf x).toNat)
  case atStart => exact ⟨lo, mid, rfl, rfl, Nat.le_refl _, hlh, Nat.le_refl _, .inl rfl, .inl rfl, S0⟩
  case round =>
    clear S0
    obtain ⟨s, r, rfl, rfl, hs1, hsr, hr2, hA, hB, HS⟩ := hrel
    by_cases hlt : s < r
    · obtain ⟨h, hh⟩ : ∃ h : Nat, ((s : Int) + r) / 2 = h := ⟨(s + r) / 2, by omega⟩
      have hh1 : s ≤ h := by omega
      have hh2 : h < r := by omega
      have hhl : (h : Int) < (sz : Int) := by omega
      obtain ⟨q, hq⟩ : ∃ q : Nat, (p : Int) - (h : Int) = q := ⟨p - h, by omega⟩
      have hql : (q : Int) < (sz : Int) := by omega
      have rq : IntKind.i64.wrap ((p : Int) - (h : Int)) = (q : Int) := by rw [hq, IntKind.wrap_i64]; omega
      have rq' : IntKind.i64.wrap (q : Int) = (q : Int) := by rw [IntKind.wrap_i64]; omega
      have la := HS.out.cl HR.out HLL.out q (by have := HLL.out; have := HSZ.out; omega)
      have lb := HS.out.cl HR.out HLL.out h (by have := HLL.out; have := HSZ.out; omega)
      have HUP : Hid (¬ c (L.getD q 0) < c (L.getD h 0) → h + 1 = lo ∨ c (L.getD (h + 1 - 1) 0) ≤ c (L.getD (n - (h + 1)) 0)) := fun hv => .inr (by rw [Nat.add_sub_cancel, show n - (h + 1) = q by omega]; omega)
      have HDN : Hid (c (L.getD q 0) < c (L.getD h 0) → h = mid ∨ c (L.getD (p - h) 0) < c (L.getD h 0)) := fun hv => .inr (by rw [show p - h = q by omega]; exact hv)
      obtain ⟨x, hxe⟩ : ∃ x, L.getD q 0 = x := ⟨_, rfl⟩
      obtain ⟨y, hye⟩ : ∃ y, L.getD h 0 = y := ⟨_, rfl⟩
      rw [hxe] at HUP HDN
      rw [hye] at HUP HDN lb
      have la' : ∀ (n : Nat) (os : Array Obj), (grow (wr.drewN n) os).cell? ⟨blk, off + q, none⟩ = some (.int .i32 x) := fun n os => by rw [← hxe]; exact la n os
      have lb' : ∀ (n : Nat) (os : Array Obj), (grow (wr.drewN n) os).cell? ⟨blk, off + h, none⟩ = some (.int .i32 y) := lb
      clear la lb
      have la := la'
      have lb := lb'
      have HY := Hid.mk' hye
      clear la' lb' hxe hye
      by_cases hcmp : c x < c y
      · have hdn := Hid.mk' (HDN.out hcmp)
        clear HUP HDN
        have hd : decide (cf x y < 0) = true := by rw [HCF.out]; exact decide_eq_true hcmp
        have hc := HS.out.cmp HC.out HLL.out x y
        clear hcmp
        go_wp2_with fail
        go_quiet_grown (first | (go_at_fn g; refine Calls.grown_of (hc _ _)))
        have HS2 : Hid (SL w0 blk off L (grow (wr.drewN nq) osq)) := HS.out.grown nq osq
        clear la lb hc HS
        generalize grow (wr.drewN nq) osq = w2 at HS2 ⊢
        clear nq osq
        go_wp2
        go_roundw
        case rel => exact ⟨s, h, rfl, rfl, hs1, by omega, by omega, hA, by rw [HY.out]; exact hdn, HS2⟩
        case measure => simp [intOf]; omega
      · have hup := Hid.mk' (HUP.out hcmp)
        clear HUP HDN
        have hd : decide (cf x y < 0) = false := by rw [HCF.out]; exact decide_eq_false hcmp
        have hc := HS.out.cmp HC.out HLL.out x y
        clear hcmp
        go_wp2_with fail
        go_quiet_grown (first | (go_at_fn g; refine Calls.grown_of (hc _ _)))
        have HS2 : Hid (SL w0 blk off L (grow (wr.drewN nq) osq)) := HS.out.grown nq osq
        clear la lb hc HS
        generalize grow (wr.drewN nq) osq = w2 at HS2 ⊢
        clear nq osq
        go_wp2
        go_roundw
        case rel => exact ⟨h + 1, r, by go_num, rfl, by omega, by omega, hr2, hup, hB, HS2⟩
        case measure => simp [intOf]; omega
    · obtain rfl : s = r := by omega
      obtain ⟨en, hen⟩ : ∃ en : Nat, (n : Int) - (s : Int) = en := ⟨n - s, by omega⟩
      have hsd : decide ((s : Int) < (s : Int)) = false := by simp
      obtain ⟨P, X, Y, Q, hL, hP, hX, hY, hBub, m1, m2, m3, m4, hcr⟩ := merge_step (c := c) (mid := mid) (s := s) (e := en) HST.out.1 HST.out.2 (by omega) (by omega) (by omega) (by omega) (by have := HLL.out; have := HSZ.out; omega) (by omega)
        (by have q1 := HQO.out
            rcases hA.out with h | h
            · omega
            · exact .inr (.inr (by rw [← show n - s = en by omega]; exact h)))
        (by have q1 := HQI.out
            rcases hB.out with h | h
            · omega
            · exact .inr (.inr (by rw [← show p - s = en - 1 by omega]; exact h)))
      have HROTC : Hid (s < m → m < en → Calls Tryz.prog 166 #[.slice (some ⟨blk, off, none⟩) sz cap, .int .i64 s, .int .i64 m, .int .i64 en, .func (.func g) #[] cb] wr fun e w' => e = .returned (.tuple #[]) ∧ SL w0 blk off (P ++ Y ++ X ++ Q) w') := fun q1 q2 => HROT.out P X Y Q s m en wr hP (by omega) (by omega) (by omega) (by omega) (by rw [← hL, HLL.out, HSZ.out]) (by rw [← hL]; exact HS.out)
      have HSAME : Hid (¬ (s < m ∧ m < en) → SL w0 blk off (P ++ Y ++ X ++ Q) wr) := fun q1 => by
        have := HS.out
        rw [hL] at this
        rcases (by omega : X.length = 0 ∨ Y.length = 0) with h | h
        · obtain rfl := List.length_eq_zero_iff.1 h; simpa using this
        · obtain rfl := List.length_eq_zero_iff.1 h; simpa using this
      have HLN : Hid ((P ++ Y ++ X ++ Q).length = L0.length) := by
        show _ = _
        rw [← HLL.out]
        exact hBub.length
      generalize P ++ Y ++ X ++ Q = L' at *
      have HM1 := Hid.mk' m1
      have HM2 := Hid.mk' m2
      have HM3 := Hid.mk' m3
      have HM4 := Hid.mk' m4
      have HCR := Hid.mk' hcr
      have HBU := Hid.mk' hBub
      rw [HSZ.out] at HLN
      have hse : s ≤ mid := by omega
      have hem : m ≤ en := by omega
      have hms' : mid ≤ en := by omega
      have heb : en ≤ b := by omega
      have has : a ≤ s := by omega
      clear m1 m2 m3 m4 hcr hBub hL hP hX hY HROT hA hB HST HS
      obtain ⟨bo, hbo⟩ : ∃ bo, decide (s < m ∧ m < en) = bo := ⟨_, rfl⟩
      have HBO := Hid.mk' hbo
      clear hbo
      go_upto_region 39 with fail
      go_cut [185] from 178 to 184 (fun x wx => x = .bool bo ∧ wr = wx)
      case first =>
        have hx : (decide (s < m) = false ∧ bo = false) ∨ (decide (s < m) = true ∧ decide (m < en) = false ∧ bo = false) ∨ (decide (s < m) = true ∧ decide (m < en) = true ∧ bo = true) := by
          rw [← HBO.out]
          simp only [decide_eq_true_eq, decide_eq_false_iff_not]
          omega
        clear HROTC HSAME
        rcases hx with ⟨x1, rfl⟩ | ⟨x1, x2, rfl⟩ | ⟨x1, x2, rfl⟩
        all_goals
          go_wp2
          go_meet
          case rel => exact ⟨by first | rfl | rw [x2], rfl⟩
      case rest =>
      obtain ⟨rfl, rfl⟩ := hcut
      go_upto_if 185 with fail
      go_cut [20] from 178 to 191 (fun x wx => x = .int .i64 s ∧ Hid (SL w0 blk off L' wx))
      case first =>
        cases bo
        · have HS3 := Hid.mk' (HSAME.out (of_decide_eq_false HBO.out))
          clear HROTC HSAME
          go_wp2
          go_meet
          case rel => exact ⟨rfl, HS3⟩
        · have hro := of_decide_eq_true HBO.out
          have HC4 := Hid.mk' (HROTC.out hro.1 hro.2)
          clear hro HROTC HSAME
          go_wp2_with fail
          refine HC4.out.mono ?_
          rintro e' w3 ⟨rfl, hS3⟩
          have HS3 := Hid.mk' hS3
          clear hS3 HC4
          go_wp2
          go_meet
          case rel => exact ⟨rfl, HS3⟩
      case rest =>
        obtain ⟨rfl, HS3⟩ := hcut
        clear HROTC HSAME
        clear HBO
        obtain ⟨bo, hbo⟩ : ∃ bo, decide (a < s ∧ s < mid) = bo := ⟨_, rfl⟩
        have HBO := Hid.mk' hbo
        clear hbo
        obtain ⟨wq, hwq⟩ : ∃ wq, wc = wq := ⟨_, rfl⟩
        rw [hwq] at HS3 ⊢
        clear hwq
        go_upto_region 41 with fail
        go_cut [199] from 192 to 198 (fun x wx => x = .bool bo ∧ wq = wx)
        case first =>
          have hx : (decide (a < s) = false ∧ bo = false) ∨ (decide (a < s) = true ∧ decide (s < mid) = false ∧ bo = false) ∨ (decide (a < s) = true ∧ decide (s < mid) = true ∧ bo = true) := by
            rw [← HBO.out]
            simp only [decide_eq_true_eq, decide_eq_false_iff_not]
            omega
          rcases hx with ⟨x1, rfl⟩ | ⟨x1, x2, rfl⟩ | ⟨x1, x2, rfl⟩
          all_goals
            go_wp2
            go_meet
            case rel => exact ⟨by first | rfl | rw [x2], rfl⟩
        case rest =>
        obtain ⟨rfl, rfl⟩ := hcut
        go_upto_if 199 with fail
        go_cut [20] from 192 to 205 (fun x wx => x = .int .i64 s ∧ Hid (∃ L1, Bub c a mid L' L1 ∧ Srt c a mid L1 ∧ SL w0 blk off L1 wx))
        case first =>
          cases bo
          · have hr1 := of_decide_eq_false HBO.out
            have HS5 : Hid (∃ L1, Bub c a mid L' L1 ∧ Srt c a mid L1 ∧ SL w0 blk off L1 wq) := by
              refine ⟨L', .refl _, ?_, HS3.out⟩
              rcases (by omega : s = a ∨ s = mid) with h | h
              · have := HM2.out; rwa [h] at this
              · have := HM1.out; rwa [h] at this
            clear hr1 HS3
            go_wp2
            go_meet
            case rel => exact ⟨rfl, HS5⟩
          · have hr1 := of_decide_eq_true HBO.out
            have HC5 := Hid.mk' (HREC.out a s mid L' wq (.inl ⟨rfl, rfl⟩) hr1.1 hr1.2 HLN.out HM1.out HM2.out HS3.out)
            clear hr1 HS3
            go_wp2_with fail
            refine HC5.out.mono ?_
            rintro e' w5 ⟨rfl, hS5⟩
            have HS5 := Hid.mk' hS5
            clear hS5 HC5
            go_wp2
            go_meet
            case rel => exact ⟨rfl, HS5⟩
        case rest =>
          obtain ⟨rfl, HS5⟩ := hcut
          clear HS3 HBO
          obtain ⟨L1, hB1, hA1, hSL1⟩ := HS5.out
          have HB1 := Hid.mk' hB1
          have HA1 := Hid.mk' hA1
          have HS4 := Hid.mk' hSL1
          clear hB1 hA1 hSL1 HS5
          by_cases hr2 : mid < en ∧ en < b
          · have z1 : decide (mid < en) = true := by simp; omega
            have z2 : decide (en < b) = true := by simp; omega
            have HC6 := Hid.mk' (HREC.out mid en b L1 wc (.inr ⟨rfl, rfl⟩) hr2.1 hr2.2 (HB1.out.length.trans HLN.out) (HM3.out.out HB1.out (.inr (Nat.le_refl _))) (HM4.out.out HB1.out (.inr (by omega))) HS4.out)
            clear hr2 HREC HS4
            go_wp2_with fail
            refine HC6.out.mono ?_
            rintro e' w6 ⟨rfl, L2, hB2, hS2, hSL2⟩
            have HFIN : Hid (∃ L', Bub c a b L L' ∧ Srt c a b L' ∧ SL w0 blk off L' w6) := ⟨L2, HBU.out.trans ((HB1.out.mono (Nat.le_refl _) (by omega)).trans (hB2.mono (by omega) (Nat.le_refl _))), Srt.both (HA1.out.out hB2 (.inl (Nat.le_refl _))) hS2 (cross_keep HB1.out hB2 HCR.out), hSL2⟩
            clear hB2 hS2 hSL2
            go_wp2
            go_end0
            exact ⟨rfl, HFIN.out⟩
          · have HFIN : Hid (∃ L', Bub c a b L L' ∧ Srt c a b L' ∧ SL w0 blk off L' wc) := by
              have hS2 : Srt c mid b L1 := by
                rcases (by omega : en = mid ∨ en = b) with h | h
                · have := HM4.out.out HB1.out (.inr (by omega)); rwa [h] at this
                · have := HM3.out.out HB1.out (.inr (Nat.le_refl _)); rwa [h] at this
              exact ⟨L1, HBU.out.trans (HB1.out.mono (Nat.le_refl _) (by omega)), Srt.both HA1.out hS2 (cross_keep HB1.out (.refl _) HCR.out), HS4.out⟩
            have hz : decide (mid < en) = false ∨ (decide (mid < en) = true ∧ decide (en < b) = false) := by
              by_cases h : mid < en
              · right; simp; omega
              · left; simp; omega
            clear hr2 HREC HS4
            rcases hz with z1 | ⟨z1, z2⟩
            all_goals
              go_wp2
              go_end0
              exact ⟨rfl, HFIN.out⟩
end Go.Proofs.YtoceaielclomcaaRRGreatDoor

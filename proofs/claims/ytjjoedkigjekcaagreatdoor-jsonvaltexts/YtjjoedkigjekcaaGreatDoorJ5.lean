/-
  What is proved here: what the reference's Written answers at any text.
-/
import Derived.Test.YtjjoedkigjekcaaGreatDoorJ4
import Derived.Deep.CutRange
namespace Go.Proofs.YtjjoedkigjekcaaGreatDoor
open Go.RowKit

theorem getD_end {s : List UInt8} {k : Nat} (h : s.length ≤ k) : s.getD k 0 = 0 := by simp [List.getD, List.getElem?_eq_none h]
theorem getD_at {s : List UInt8} {k : Nat} {b : UInt8} (h : s[k]? = some b) : s.getD k 0 = b := by simp [List.getD, h]
theorem byte_eq (b : UInt8) (c : UInt8) : (b = c ↔ (b.toNat : Int) = c.toNat) := by rw [← UInt8.toNat_inj]; omega
/-- what stands at a place: nothing, or a byte -/
theorem place_cases (s : List UInt8) (k : Nat) : (s.length ≤ k ∧ s.getD k 0 = 0) ∨ (k < s.length ∧ ∃ h : k < (strL s).size, s.getD k 0 = (strL s)[k]) := by
  rcases Nat.lt_or_ge k s.length with g | g
  · exact .inr ⟨g, g, getD_at (strL_get s k g)⟩
  · exact .inl ⟨g, getD_end g⟩
theorem wr2_dot {s : List UInt8} {a : Nat} (h : s.getD a 0 = 46) : wr2 s a = if digsN s (a + 1) = 0 then false else wr3 s (a + 1 + digsN s (a + 1)) := by unfold wr2; rw [if_pos h]
theorem wr2_not {s : List UInt8} {a : Nat} (h : s.getD a 0 ≠ 46) : wr2 s a = wr3 s a := by unfold wr2; rw [if_neg h]
theorem wr3_not {s : List UInt8} {a : Nat} (h : ¬ (s.getD a 0 = 101 ∨ s.getD a 0 = 69)) : wr3 s a = (a == s.length) := by unfold wr3; rw [if_neg h]
/-- the end of a number with an exponent, its digits from a place on -/
def wr4 (s : List UInt8) (a : Nat) : Bool := if digsN s a = 0 then false else a + digsN s a == s.length
theorem wr3_exp {s : List UInt8} {a : Nat} (h : s.getD a 0 = 101 ∨ s.getD a 0 = 69) : wr3 s a = wr4 s (if s.getD (a + 1) 0 = 43 ∨ s.getD (a + 1) 0 = 45 then a + 2 else a + 1) := by
  unfold wr3 wr4
  rw [if_pos h]
  split <;> rfl
/-- is a byte another one? as the walk asks -/
theorem byte_test (b c : UInt8) (z : Int) (hz : (c.toNat : Int) = z) : (b = c ∧ (b.toNat : Int) = z) ∨ (b ≠ c ∧ ((b.toNat : Int) == z) = false) := by
  subst hz
  by_cases h : b = c
  · exact .inl ⟨h, (byte_eq _ _).1 h⟩
  · exact .inr ⟨h, by simp only [beq_eq_false_iff_ne, ne_eq]; exact fun e => h ((byte_eq _ _).2 e)⟩
set_option maxRecDepth 20000 in
set_option maxHeartbeats 8000000 in
theorem written_any (s : List UInt8) (w : World) (hs : s.length ≤ 140737488355328) :
    Calls Tryz.prog 21 #[.string (strL s)] w fun e w' => e = .returned (.bool (writtenM s)) ∧ w = w' := by
  have HP := Hid.mk' (place_cases s)
  have HD : Hid (∀ a : Nat, a ≤ 140737488355400 → _) := fun a ha => digits_any s a w hs ha
  have hz : (strL s).size = s.length := rfl
  have HLE := Hid.mk' (digsN_le s)
  obtain ⟨R, hR⟩ : ∃ R, writtenM s = R := ⟨_, rfl⟩
  have HR : Hid (R = wr1 s (if s.getD 0 0 = 45 then 1 else 0)) := hR.symm
  rw [hR]
  clear hR
  obtain ⟨sg, hsg⟩ : ∃ sg, decide (s.getD 0 0 = 45) = sg := ⟨_, rfl⟩
  have HSG := Hid.mk' hsg
  clear hsg
  generalize strL s = S at *
  go_enter Tryz.func21, Tryz.ntmps21
  go_upto_region 2 with fail
  go_cut [14] from 5 to 13 (fun x wx => x = .bool sg ∧ w = wx)
  case first =>
    rcases HP.out 0 with ⟨h1, h2⟩ | ⟨h1, h2, h3⟩
    · have hsg : sg = false := by rw [← HSG.out, h2]; decide
      clear h2 HD HP HLE HSG HR
      go_wp2
      go_meet
      exact ⟨by rw [hsg], rfl⟩
    · rcases byte_test S[0] 45 45 rfl with ⟨h4, h5⟩ | ⟨h4, h5⟩
      · have hsg : sg = true := by rw [← HSG.out, h3, h4]; decide
        clear h3 h4 HD HP HLE HSG HR
        go_wp2
        go_meet
        exact ⟨by rw [hsg], rfl⟩
      · have hsg : sg = false := by rw [← HSG.out, h3]; simpa using h4
        clear h3 h4 HD HP HLE HSG HR
        go_wp2
        go_meet
        exact ⟨by rw [hsg], rfl⟩
  case rest =>
    obtain ⟨rfl, rfl⟩ := hcut
    go_upto_if 14 with fail
    go_cut [3] from 5 to 14 (fun x wx => ∃ a : Nat, x = .int .i64 a ∧ a ≤ 1 ∧ Hid (R = wr1 s a) ∧ w = wx)
    case first =>
      cases sg
      · have HR1 : Hid (R = wr1 s 0) := by
          have h : ¬ s.getD 0 0 = 45 := of_decide_eq_false HSG.out
          have := HR.out
          rw [if_neg h] at this
          exact this
        clear HD HP HLE HSG HR
        go_wp2
        go_meet
        exact ⟨0, rfl, by omega, HR1, rfl⟩
      · have HR1 : Hid (R = wr1 s 1) := by
          have h : s.getD 0 0 = 45 := of_decide_eq_true HSG.out
          have := HR.out
          rw [if_pos h] at this
          exact this
        clear HD HP HLE HSG HR
        go_wp2
        go_meet
        exact ⟨1, rfl, by omega, HR1, rfl⟩
    case rest =>
      obtain ⟨a, rfl, ha, HR1, rfl⟩ := hcut
      clear HR HSG
      go_wp2_with fail
      refine (HD.out a (by omega)).mono ?_
      rintro e w1 ⟨rfl, rfl⟩
      obtain ⟨n, hn⟩ : ∃ n, digsN s a = n := ⟨_, rfl⟩
      have hnl := HLE.out a
      rw [hn] at hnl ⊢
      have HN := Hid.mk' hn
      clear hn
      go_upto_region 5 with fail
      go_cut [29] from 18 to 28 (fun x wx => ∃ bad, x = .bool bad ∧ Hid (bad = decide (n = 0 ∨ (1 < n ∧ s.getD a 0 = 48))) ∧ w = wx)
      case first =>
        rcases Nat.eq_zero_or_pos n with h0 | h0
        · subst h0
          clear HD HP HLE HR1 HN
          go_wp2
          go_meet
          exact ⟨true, rfl, by show _ = _; simp, rfl⟩
        · have h0b : ((n : Int) == 0) = false := by simp; omega
          rcases Nat.lt_or_ge 1 n with h1 | h1
          · have h1b : decide ((n : Int) > 1) = true := by simp; omega
            rcases HP.out a with ⟨h2, -⟩ | ⟨h2, h3, h4⟩
            · omega
            · rcases byte_test S[a] 48 48 rfl with ⟨h5, h6⟩ | ⟨h5, h6⟩
              · have hb : Hid (true = decide (n = 0 ∨ (1 < n ∧ s.getD a 0 = 48))) := by show _ = _; rw [h4, h5]; simp [h1]
                clear HD HP HLE HR1 HN h4 h5
                go_wp2
                go_meet
                exact ⟨true, rfl, hb, rfl⟩
              · have hb : Hid (false = decide (n = 0 ∨ (1 < n ∧ s.getD a 0 = 48))) := by show _ = _; rw [h4]; simp [h5]; omega
                clear HD HP HLE HR1 HN h4 h5
                go_wp2
                go_meet
                exact ⟨false, rfl, hb, rfl⟩
          · have h1b : decide ((n : Int) > 1) = false := by simp; omega
            have hb : Hid (false = decide (n = 0 ∨ (1 < n ∧ s.getD a 0 = 48))) := by show _ = _; simp; omega
            clear HD HP HLE HR1 HN
            go_wp2
            go_meet
            exact ⟨false, rfl, hb, rfl⟩
      case rest =>
        obtain ⟨bad, rfl, HB, rfl⟩ := hcut
        cases bad
        · have hnb : ¬ (n = 0 ∨ (1 < n ∧ s.getD a 0 = 48)) := of_decide_eq_false HB.out.symm
          have HR2 : Hid (R = wr2 s (a + n)) := by
            show _ = _
            rw [HR1.out, wr1, HN.out, if_neg hnb]
          have hn0 : 0 < n := by
            rcases Nat.eq_zero_or_pos n with h0 | h0
            · exact absurd (.inl h0) hnb
            · exact h0
          clear HR1 HN HB hnb
          obtain ⟨a1, ha1⟩ : ∃ a1, a + n = a1 := ⟨_, rfl⟩
          have hc1 : (a : Int) + n = (a1 : Int) := by omega
          rw [ha1] at HR2
          have hl1 : a1 ≤ s.length := by omega
          obtain ⟨fr, hfr⟩ : ∃ fr, decide (s.getD a1 0 = 46) = fr := ⟨_, rfl⟩
          have HFR := Hid.mk' hfr
          clear hfr
          have hw1 : IntKind.i64.wrap ((a : Int) + n) = (a1 : Int) := by rw [← hc1]; exact wrap_i64 (by omega) (by omega)
          go_upto_region 8 with fail
          go_cut [42] from 33 to 41 (fun x wx => x = .bool fr ∧ w = wx)
          case first =>
            rcases HP.out a1 with ⟨h1, h2⟩ | ⟨h1, h2, h3⟩
            · have hfr : fr = false := by rw [← HFR.out, h2]; decide
              clear h2 HD HP HLE HR2 HFR
              go_wp2
              go_meet
              exact ⟨by rw [hfr], rfl⟩
            · rcases byte_test S[a1] 46 46 rfl with ⟨h4, h5⟩ | ⟨h4, h5⟩
              · have hfr : fr = true := by rw [← HFR.out, h3, h4]; decide
                clear h3 h4 HD HP HLE HR2 HFR
                go_wp2
                go_meet
                exact ⟨by rw [hfr], rfl⟩
              · have hfr : fr = false := by rw [← HFR.out, h3]; simpa using h4
                clear h3 h4 HD HP HLE HR2 HFR
                go_wp2
                go_meet
                exact ⟨by rw [hfr], rfl⟩
          case rest =>
            obtain ⟨rfl, rfl⟩ := hcut
            go_upto_if 42 with fail
            go_cut [3, 4] from 33 to 52 (fun x x4 wx => ∃ a n : Nat, x = .int .i64 a ∧ x4 = .int .i64 n ∧ a ≤ s.length ∧ Hid (R = wr3 s a) ∧ w = wx)
            case first =>
              cases fr
              · have HR3 : Hid (R = wr3 s a1) := HR2.out.trans (wr2_not (of_decide_eq_false HFR.out))
                clear HD HP HLE HR2 HFR
                go_wp2
                go_meet
                exact ⟨a1, n, rfl, rfl, hl1, HR3, rfl⟩
              · have hdot : s.getD a1 0 = 46 := of_decide_eq_true HFR.out
                have hlt : a1 < s.length := by
                  rcases Nat.lt_or_ge a1 s.length with g | g
                  · exact g
                  · rw [getD_end g] at hdot; exact absurd hdot (by decide)
                have HR3 : Hid (R = if digsN s (a1 + 1) = 0 then false else wr3 s (a1 + 1 + digsN s (a1 + 1))) := HR2.out.trans (wr2_dot hdot)
                have HDx := HD.out (a1 + 1) (by omega)
                have hnl2 := HLE.out (a1 + 1)
                generalize digsN s (a1 + 1) = n2 at *
                rw [show ((a1 + 1 : Nat) : Int) = (a1 : Int) + 1 from by omega] at HDx
                have HDX := Hid.mk' HDx
                have hw2 : IntKind.i64.wrap ((a1 : Int) + 1) = (a1 : Int) + 1 := wrap_i64 (by omega) (by omega)
                have hw3 : IntKind.i64.wrap ((a1 : Int) + 1 + n2) = (a1 : Int) + 1 + n2 := wrap_i64 (by omega) (by omega)
                clear HD HP HLE HR2 HFR hdot HDx
                go_wp2_with fail
                refine HDX.out.mono ?_
                rintro e w1 ⟨rfl, rfl⟩
                rcases Nat.eq_zero_or_pos n2 with h0 | h0
                · have hR : R = false := HR3.out.trans (if_pos h0)
                  subst h0 hR
                  clear HR3
                  go_wp2
                  go_ret
                  exact ⟨rfl, rfl⟩
                · have HR4 : Hid (R = wr3 s (a1 + 1 + n2)) := HR3.out.trans (if_neg (by omega))
                  have h0b : ((n2 : Int) == 0) = false := by simp; omega
                  clear HR3
                  go_wp2
                  go_meet
                  exact ⟨a1 + 1 + n2, n2, by go_num, rfl, by omega, HR4, rfl⟩
            case rest =>
              obtain ⟨a2, n9, rfl, rfl, hl2, HR3, rfl⟩ := hcut
              clear HR2 HFR hw1 hc1 ha1 hl1 ha hnl hn0
              obtain ⟨ex, hex⟩ : ∃ ex, decide (s.getD a2 0 = 101 ∨ s.getD a2 0 = 69) = ex := ⟨_, rfl⟩
              have HEX := Hid.mk' hex
              clear hex
              go_upto_region 13 with fail
              go_cut [68] from 53 to 67 (fun x wx => x = .bool ex ∧ w = wx)
              case first =>
                rcases HP.out a2 with ⟨h1, h2⟩ | ⟨h1, h2, h3⟩
                · have hex : ex = false := by rw [← HEX.out, h2]; decide
                  clear h2 HD HP HLE HR3 HEX
                  go_wp2
                  go_meet
                  exact ⟨by rw [hex], rfl⟩
                · rcases byte_test S[a2] 101 101 rfl with ⟨h4, h5⟩ | ⟨h4, h5⟩
                  · have hex : ex = true := by rw [← HEX.out, h3, h4]; decide
                    clear h3 h4 HD HP HLE HR3 HEX
                    go_wp2
                    go_meet
                    exact ⟨by rw [hex], rfl⟩
                  · rcases byte_test S[a2] 69 69 rfl with ⟨h6, h7⟩ | ⟨h6, h7⟩
                    · have hex : ex = true := by rw [← HEX.out, h3, h6]; decide
                      clear h3 h4 h6 HD HP HLE HR3 HEX
                      go_wp2
                      go_meet
                      exact ⟨by rw [hex], rfl⟩
                    · have hex : ex = false := by rw [← HEX.out, h3]; simp [h4, h6]
                      clear h3 h4 h6 HD HP HLE HR3 HEX
                      go_wp2
                      go_meet
                      exact ⟨by rw [hex], rfl⟩
              case rest =>
                obtain ⟨rfl, rfl⟩ := hcut
                cases ex
                · have hR : R = (a2 == s.length) := HR3.out.trans (wr3_not (of_decide_eq_false HEX.out))
                  clear HD HP HLE HR3 HEX
                  go_wp2
                  go_ret
                  exact ⟨ret_bool (by rw [hR, Bool.eq_iff_iff, beq_iff_eq, beq_iff_eq]; omega), rfl⟩
                · have hexp : s.getD a2 0 = 101 ∨ s.getD a2 0 = 69 := of_decide_eq_true HEX.out
                  have hlt : a2 < s.length := by
                    rcases Nat.lt_or_ge a2 s.length with g | g
                    · exact g
                    · rw [getD_end g] at hexp; exact absurd hexp (by decide)
                  obtain ⟨si, hsi⟩ : ∃ si, decide (s.getD (a2 + 1) 0 = 43 ∨ s.getD (a2 + 1) 0 = 45) = si := ⟨_, rfl⟩
                  have HSI := Hid.mk' hsi
                  have HR4 : Hid (R = wr4 s (if s.getD (a2 + 1) 0 = 43 ∨ s.getD (a2 + 1) 0 = 45 then a2 + 2 else a2 + 1)) := HR3.out.trans (wr3_exp hexp)
                  have hw2 : IntKind.i64.wrap ((a2 : Int) + 1) = ((a2 + 1 : Nat) : Int) := by rw [wrap_i64 (by omega) (by omega)]; omega
                  clear hsi HR3 HEX hexp
                  have ha3 : a2 + 1 ≤ s.length := hlt
                  have HA3 : Hid (∃ a3, a2 + 1 = a3) := ⟨_, rfl⟩
                  obtain ⟨a3, e3⟩ := HA3.out
                  have e32 : a2 + 2 = a3 + 1 := by omega
                  rw [e3] at HSI HR4 hw2 ha3
                  rw [e32] at HR4
                  clear HA3
                  go_upto_region 15 with fail
                  go_cut [86] from 71 to 85 (fun x wx => x = .bool si ∧ w = wx)
                  case first =>
                    rcases HP.out a3 with ⟨h1, h2⟩ | ⟨h1, h2, h3⟩
                    · have hsi : si = false := by rw [← HSI.out, h2]; decide
                      clear h2 HD HP HLE HR4 HSI
                      go_wp2
                      go_meet
                      exact ⟨by rw [hsi], rfl⟩
                    · rcases byte_test S[a3] 43 43 rfl with ⟨h4, h5⟩ | ⟨h4, h5⟩
                      · have hsi : si = true := by rw [← HSI.out, h3, h4]; decide
                        clear h3 h4 HD HP HLE HR4 HSI
                        go_wp2
                        go_meet
                        exact ⟨by rw [hsi], rfl⟩
                      · rcases byte_test S[a3] 45 45 rfl with ⟨h6, h7⟩ | ⟨h6, h7⟩
                        · have hsi : si = true := by rw [← HSI.out, h3, h6]; decide
                          clear h3 h4 h6 HD HP HLE HR4 HSI
                          go_wp2
                          go_meet
                          exact ⟨by rw [hsi], rfl⟩
                        · have hsi : si = false := by rw [← HSI.out, h3]; simp [h4, h6]
                          clear h3 h4 h6 HD HP HLE HR4 HSI
                          go_wp2
                          go_meet
                          exact ⟨by rw [hsi], rfl⟩
                  case rest =>
                    obtain ⟨rfl, rfl⟩ := hcut
                    clear e3 e32 hw2
                    go_upto_if 86 with fail
                    go_cut [3] from 71 to 88 (fun x wx => ∃ a : Nat, x = .int .i64 a ∧ a ≤ s.length + 1 ∧ Hid (R = wr4 s a) ∧ w = wx)
                    case first =>
                      cases si
                      · have HR5 : Hid (R = wr4 s a3) := by
                          have := HR4.out
                          rw [if_neg (of_decide_eq_false HSI.out)] at this
                          exact this
                        clear HD HP HLE HR4 HSI
                        go_wp2
                        go_meet
                        exact ⟨a3, rfl, by omega, HR5, rfl⟩
                      · have HR5 : Hid (R = wr4 s (a3 + 1)) := by
                          have := HR4.out
                          rw [if_pos (of_decide_eq_true HSI.out)] at this
                          exact this
                        have hw2 : IntKind.i64.wrap ((a3 : Int) + 1) = (a3 : Int) + 1 := wrap_i64 (by omega) (by omega)
                        clear HD HP HLE HR4 HSI
                        go_wp2
                        go_meet
                        exact ⟨a3 + 1, by go_num, by omega, HR5, rfl⟩
                    case rest =>
                      obtain ⟨a4, rfl, hl4, HR5, rfl⟩ := hcut
                      have HR6 : Hid (R = if digsN s a4 = 0 then false else a4 + digsN s a4 == s.length) := HR5.out
                      have HDx := HD.out a4 (by omega)
                      have hnl2 := HLE.out a4
                      generalize digsN s a4 = n2 at *
                      have HDX := Hid.mk' HDx
                      have hw3 : IntKind.i64.wrap ((a4 : Int) + n2) = (a4 : Int) + n2 := wrap_i64 (by omega) (by omega)
                      clear HD HP HLE HR4 HR5 HSI HDx
                      go_wp2_with fail
                      refine HDX.out.mono ?_
                      rintro e w1 ⟨rfl, rfl⟩
                      rcases Nat.eq_zero_or_pos n2 with h0 | h0
                      · have hR : R = false := HR6.out.trans (if_pos h0)
                        subst h0 hR
                        clear HR6
                        go_wp2
                        go_ret
                        exact ⟨rfl, rfl⟩
                      · have hR : R = (a4 + n2 == s.length) := HR6.out.trans (if_neg (by omega))
                        have h0b : ((n2 : Int) == 0) = false := by simp; omega
                        clear HR6
                        go_wp2
                        go_ret
                        exact ⟨ret_bool (by rw [hR, Bool.eq_iff_iff, beq_iff_eq, beq_iff_eq]; omega), rfl⟩
        · have hR : R = false := by
            rw [HR1.out, wr1, HN.out, if_pos (of_decide_eq_true HB.out.symm)]
          subst hR
          clear HD HP HLE HR1 HN HB
          go_wp2
          go_ret
          exact ⟨rfl, rfl⟩
end Go.Proofs.YtjjoedkigjekcaaGreatDoor

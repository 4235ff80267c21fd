/-
  What is proved here: what the document's Encode answers where all runes are right.
-/
import Derived.Test.YtockmkcoehepiaaDoorU2
namespace Go.Proofs.YtockmkcoehepiaaDoor
open Go.RowKit

def measV (v : Value) : Nat := measR (intOf v)
set_option maxRecDepth 100000 in
set_option maxHeartbeats 4000000 in
theorem refEncode_run (a : Option Addr) (cap : Nat) (l : List Int) (w : World) (h : RunesC w a cap l) (hl : l.length ≤ 120) (hw : wrongAt l < 0) :
    Calls Tryd.prog 26 #[.slice a l.length cap] w fun e w' => ((encM l).length ≤ 120 ∧ e = .returned (.tuple #[.string (strOfNums (encM l)), .int .i64 0, .int .i64 0]) ∨ 120 < (encM l).length ∧ e = .returned (.tuple #[.string ⟨#[]⟩, .int .i64 0, .int .i64 3])) ∧ Below w.heap.size w w' := by
  have hr := wrong_none.1 hw
  have hr' : ∀ x ∈ l, x ≤ 1114111 := fun x hx => by have := hr x hx; simp [rgtB] at this; omega
  have HRR : Hid (∀ k, k < l.length → rgtB (l.getD k 0) = true ∧ 0 ≤ l.getD k 0) := fun k hk => by
    have hm : l.getD k 0 ∈ l := by rw [List.getD_eq_getElem?_getD, List.getElem?_eq_getElem hk]; exact List.getElem_mem _
    have := hr _ hm
    refine ⟨this, ?_⟩
    unfold rgtB at this
    have := of_decide_eq_true this
    omega
  have HV : Hid (∀ W, Below w.heap.size w W → RunesC W a cap l) := fun W hW => h.below hW
  have HRI : Hid (∀ r W, _) := fun r W => refRight_any r W
  have HLE : Hid (∀ W r, Below w.heap.size w W → _) := fun W r hW => least_any a cap l r W (h.below hW) (by omega)
  have HDG : Hid (∀ (W : World) (d b : Int), _) := fun W d b => refDigits_any d b W
  have HBI : Hid (∀ (W : World) (d m : Int) (f : Bool), _) := fun W d m f => refBias_any d m f W
  have HPS : Hid (∀ k, k < l.length → plainM (l.take (k + 1)) = if l.getD k 0 < 128 then plainM (l.take k) ++ [l.getD k 0] else plainM (l.take k)) := fun k hk => plain_snoc hk
  have HPL : Hid (∀ k, (plainM (l.take k)).length ≤ 120) := fun k => Nat.le_trans (plain_le _) (by rw [List.length_take]; omega)
  have HP0 : Hid (plainM (l.take 0) = []) := rfl
  have HPA : Hid (plainM (l.take l.length) = plainM l) := by show _ = _; rw [List.take_length]
  have HST : Hid (startE l = ⟨128, 0, (plainM l).length, 72, true, if (plainM l).length = 0 then plainM l else plainM l ++ [45]⟩) := rfl
  have HF1 : Hid (AtR l (leastM l 127) (startE l)) := at_first hr'
  have HF2 : Hid (∀ r, 128 ≤ r → AtR l (leastM l r) (afterE l (doneM l r l.length))) := fun r h => at_next hr' h
  have HHT : Hid (∀ (r : Int) (k : Nat), k < l.length → l.getD k 0 = r → 128 ≤ r → AtH l r k (afterE l (doneM l r k))) := fun r k hk e h => at_hit hl hr hk e h
  have HMS : Hid (∀ (r : Int) (k : Nat), l.getD k 0 ≠ r → doneM l r (k + 1) = doneM l r k) := fun r k e => done_miss e
  have HEN : Hid (encM l = (afterE l (ordM l)).out) := rfl
  have HEL : Hid ((encM l).length ≤ 100000) := by
    have h1 := after_len hl hr' (ordM l) [] (by simp)
    have h2 := ord_len l
    show (afterE l (ordM l)).out.length ≤ _
    omega
  have HCN : Hid (∀ r k, k < l.length → cntM l r (k + 1) = cntM l r k + if l.getD k 0 ≤ r then 1 else 0) := fun r k hk => cnt_next r hk
  have HCL : Hid (∀ r k, cntM l r k ≤ k) := fun r k => cnt_le l r k
  have HDD : Hid (∀ r : Int, doneM l r ((0 : Nat) : Int) = doneM l r 0) := fun r => rfl
  generalize encM l = EN at *
  clear h hr hr' hw
  go_enter Tryd.func26, Tryd.ntmps26
  go_wp2
  go_loop [5] (fun x => ∃ k : Nat, k ≤ l.length ∧ x = .int .i64 k) (fun x => l.length - (intOf x).toNat)
  case atStart => exact ⟨0, Nat.zero_le _, rfl⟩
  case round =>
    obtain ⟨k, hk, rfl⟩ := hrel
    by_cases hlt : k < l.length
    · obtain ⟨b, off, rfl, ck⟩ := (HV.out w (Below.refl _ _)).2 k hlt
      have HK := Hid.mk' (HRI.out (l.getD k 0) w)
      rw [(HRR.out k hlt).1] at HK
      generalize l.getD k 0 = x at *
      have hklz : (k : Int) < (l.length : Int) := by omega
      go_wp2_with fail
      refine HK.out.mono ?_
      rintro e w1 ⟨rfl, rfl⟩
      go_wp2
      go_round
      case rel => exact ⟨k + 1, by omega, by go_num⟩
      case measure => simp [intOf]; omega
    · obtain rfl : k = l.length := by omega
      have hld : decide (120 < l.length) = false := decide_eq_false (by omega)
      go_wp2
      go_loopw [6, 7] (fun x y wr => ∃ (k : Nat) (s : ByteArray), k ≤ l.length ∧ y = .int .i64 k ∧ x = .string s ∧ s.size ≤ 120 ∧ Hid (s = strOfNums (plainM (l.take k))) ∧ Hid (Below w.heap.size w wr)) (fun _ y _ => l.length - (intOf y).toNat)
      case atStart => exact ⟨0, ⟨#[]⟩, Nat.zero_le _, rfl, rfl, by decide, by show _ = _; rw [HP0.out]; rfl, Below.refl _ _⟩
      case round =>
        obtain ⟨k, s, hk2, rfl, rfl, hsz, HS, HB⟩ := hrel
        by_cases hlt2 : k < l.length
        · obtain ⟨b, off, rfl, ck⟩ := (HV.out wr HB.out).2 k hlt2
          have HN := Hid.mk' (HPS.out k hlt2)
          have hpl := HPL.out (k + 1)
          have h0k := (HRR.out k hlt2).2
          generalize l.getD k 0 = x at *
          have hklz : (k : Int) < (l.length : Int) := by omega
          by_cases hx : x < 128
          · rw [if_pos hx] at HN
            have HS2 : Hid (s ++ strOfNums [x] = strOfNums (plainM (l.take (k + 1)))) := by show _ = _; rw [HN.out, HS.out, strOf_append]
            have hz1 : (s ++ strOfNums [x]).size ≤ 120 := by rw [HS2.out, strOfNums_size]; exact hpl
            have hcv : ∀ y : Int, _ := fun y => conv_one wr y
            have hq1 : (strOfNums [x]).size ≤ 1 := by rw [strOfNums_size]; exact Nat.le_refl _
            have HB2 : Hid (Below w.heap.size w (wr.alloc (.cells #[.int .u8 x] 5))) := HB.out.alloc HB.out.size _
            clear HS HN HB
            go_wp2
            go_roundw
            case rel => exact ⟨k + 1, _, by omega, by go_num, rfl, hz1, HS2, HB2⟩
            case measure => simp [intOf]; omega
          · rw [if_neg hx] at HN
            have hxd : decide (x < 128) = false := decide_eq_false hx
            rw [← HN.out] at HS
            go_wp2
            go_roundw
            case rel => exact ⟨k + 1, s, by omega, by go_num, rfl, hsz, HS, HB⟩
            case measure => simp [intOf]; omega
        · obtain rfl : k = l.length := by omega
          rw [HPA.out] at HS
          have hszq : s.size = (plainM l).length := by rw [HS.out, strOfNums_size]
          have HSZ := Hid.mk' hszq
          have hkd : decide ((l.length : Int) < (l.length : Int)) = false := by simp
          have HLF := Hid.mk' (HLE.out wr 127 HB.out)
          have HS0 : Hid (∃ s' : ByteArray, s' = strOfNums (startE l).out ∧ s' = (if s.size = 0 then s else s ++ ⟨#[45]⟩) ∧ s'.size ≤ 121) := by
            rw [HST.out, ← HSZ.out]
            by_cases h0 : s.size = 0
            · simp only [h0, if_true]
              exact ⟨_, HS.out, rfl, by omega⟩
            · simp only [h0, if_false]
              exact ⟨_, by rw [HS.out, show (⟨#[45]⟩ : ByteArray) = strOfNums [45] by decide +kernel, strOf_append], rfl, by rw [ByteArray.size_append]; show s.size + 1 ≤ _; omega⟩
          have HM0 : Hid ((s.size : Int) = (startE l).m ∧ (startE l).bias = 72 ∧ (startE l).first = true ∧ (startE l).n = 128 ∧ (startE l).i = 0) := by rw [HST.out]; exact ⟨by show _ = ((plainM l).length : Int); rw [HSZ.out], rfl, rfl, rfl, rfl⟩
          clear hszq HST HPS HPL HP0 HPA HS
          generalize startE l = E0 at *
          obtain ⟨s1, hs1, hs1', hz1⟩ := HS0.out
          have HS1 := Hid.mk' hs1
          have HS1' := Hid.mk' hs1'
          clear hs1 hs1' HS0 HSZ
          by_cases h0 : s.size = 0
          all_goals
            have HS2 := HS1'
            first
              | (rw [if_pos h0] at HS2; have hkz : decide (0 < s.size) = false := decide_eq_false (by omega); clear h0)
              | (rw [if_neg h0] at HS2; have hkz : decide (0 < s.size) = true := decide_eq_true (by omega); clear h0)
            clear HS1'
            go_wp2_with fail
            refine HLF.out.mono ?_
            rintro e w2 ⟨rfl, rfl⟩
            go_wp2
            go_loopw [6, 8, 9, 10, 11, 12, 13] (fun x6 x8 x9 x10 x11 x12 x13 wr => ∃ (s : ByteArray) (n i m bias : Int) (first : Bool) (out : List Int) (r : Int), x6 = .string s ∧ x8 = .int .i64 m ∧ x9 = .int .i64 bias ∧ x10 = .bool first ∧ x11 = .int .i64 n ∧ x12 = .int .i64 i ∧ x13 = .int .i32 r ∧ s.size ≤ 100000 ∧ Hid (s = strOfNums out) ∧ Hid (AtR l r ⟨n, i, m, bias, first, out⟩) ∧ Hid (Below w.heap.size w wr)) (fun _ _ _ _ _ _ x13 _ => measV x13)
            case atStart =>
              obtain ⟨m1, m2, m3, m4, m5⟩ := HM0.out
              refine ⟨s1, E0.n, E0.i, E0.m, E0.bias, E0.first, E0.out, leastM l 127, by rw [HS2.out], by rw [← m1], by rw [m2], by rw [m3], by rw [m4], by rw [m5], rfl, by omega, HS1, HF1.out, HB.out⟩
            case round =>
              clear HS1 HS2 HM0 HF1 HB HLF
              obtain ⟨s, n, i, m, bias, first, out, r, rfl, rfl, rfl, rfl, rfl, rfl, rfl, hsz3, HS3, HR3, HB3⟩ := hrel
              rcases HR3.out with ⟨rfl, hE⟩ | ⟨hr128, hr111, hE⟩
              · have HEE : Hid (s = strOfNums EN) := by show _ = _; rw [HS3.out, HEN.out, hE]
                have hsE : s.size = EN.length := by rw [HEE.out, strOfNums_size]
                have HSE := Hid.mk' hsE
                clear hE HR3 HS3 hsE
                by_cases h120 : EN.length ≤ 120
                · have hd : decide (120 < s.size) = false := decide_eq_false (by rw [HSE.out]; omega)
                  have hd' : s.size ≤ 120 := by rw [HSE.out]; exact h120
                  go_wp2
                  go_ret3
                  exact ⟨.inl ⟨h120, by rw [← HEE.out]; rfl⟩, HB3.out⟩
                · have hd : decide (120 < s.size) = true := decide_eq_true (by rw [HSE.out]; omega)
                  have hd' : 120 < s.size := by rw [HSE.out]; omega
                  go_wp2
                  go_ret3
                  exact ⟨.inr ⟨by omega, rfl⟩, HB3.out⟩
              · have HE3 : Hid (afterE l (doneM l r ((0 : Nat) : Int)) = ⟨n, i, m, bias, first, out⟩) := hE
                have hrd : decide (0 ≤ r) = true := decide_eq_true (by omega)
                have hr0 : 0 ≤ r := by omega
                have hwr : IntKind.i64.wrap r = r := by rw [IntKind.wrap_i64]; omega
                clear hE HR3
                go_wp2
                go_loopw [6, 8, 9, 10, 11, 12, 14] (fun x6 x8 x9 x10 x11 x12 x14 wr => ∃ (s : ByteArray) (n i m bias : Int) (first : Bool) (out : List Int) (k : Nat), x6 = .string s ∧ x8 = .int .i64 m ∧ x9 = .int .i64 bias ∧ x10 = .bool first ∧ x11 = .int .i64 n ∧ x12 = .int .i64 i ∧ x14 = .int .i64 k ∧ k ≤ l.length ∧ s.size ≤ 100000 ∧ Hid (s = strOfNums out) ∧ Hid (afterE l (doneM l r (k : Int)) = ⟨n, i, m, bias, first, out⟩) ∧ Hid (Below w.heap.size w wr)) (fun _ _ _ _ _ _ x14 _ => l.length - (intOf x14).toNat)
                case atStart => exact ⟨s, n, i, m, bias, first, out, 0, rfl, rfl, rfl, rfl, rfl, rfl, rfl, Nat.zero_le _, hsz3, HS3, HE3, HB3⟩
                case round =>
                  clear HS3 HE3 HB3 hsz3
                  obtain ⟨s, n, i, m, bias, first, out, k, rfl, rfl, rfl, rfl, rfl, rfl, rfl, hk4, hsz4, HS4, HE4, HB4⟩ := hrel
                  by_cases hlt4 : k < l.length
                  · have hklz : (k : Int) < (l.length : Int) := by omega
                    have HV4 := HV.out wr HB4.out
                    obtain ⟨b, off, rfl, ck⟩ := HV4.2 k hlt4
                    have HCC : Hid (∀ j, j < l.length → wr.cell? ⟨b, off + j, none⟩ = some (.int .i32 (l.getD j 0))) := fun j hj => by
                      obtain ⟨b', off', e, h⟩ := HV4.2 j hj
                      obtain ⟨rfl, rfl⟩ : b = b' ∧ off = off' := by simpa using e
                      exact h
                    clear HV4
                    by_cases heq : l.getD k 0 = r
                    · have hat := HHT.out r k hlt4 heq hr128
                      rw [HE4.out] at hat
                      obtain ⟨⟨n0, n1, i0, i1, m1, b0, b1⟩, q2, q3, q4, q5, q6, q7, q8, q9⟩ := hat
                      have hd := num_bd ⟨n0, n1, i0, i1, m1, b0, b1⟩ q2 q3 (by omega) q4 q5
                      have HNM : Hid (numE ⟨n, i, m, bias, first, out⟩ r (cntM l r k) = (r - n) * (m + 1) + (cntM l r k : Int) - i) := rfl
                      have HPU : Hid (putE ⟨n, i, m, bias, first, out⟩ r (cntM l r k) = ⟨r, (cntM l r k : Int) + 1, m + 1, biasM (numE ⟨n, i, m, bias, first, out⟩ r (cntM l r k)) (m + 1) first, false, out ++ digM (numE ⟨n, i, m, bias, first, out⟩ r (cntM l r k)) bias⟩) := rfl
                      simp only at n0 n1 i0 i1 m1 b0 b1 q2 q4 q5 q6
                      have c1 : 0 ≤ (r - n) * (m + 1) := Int.mul_nonneg (by omega) (by omega)
                      have c2 : (r - n) * (m + 1) ≤ 1114111 * 121 := by
                        have e1 : (r - n) * (m + 1) ≤ 1114111 * (m + 1) := Int.mul_le_mul_of_nonneg_right (by omega) (by omega)
                        omega
                      have HQ8 := Hid.mk' q8
                      have HQ9 := Hid.mk' q9
                      rw [HPU.out] at HQ8 HQ9
                      have hcl := HCL.out r k
                      rw [heq] at ck
                      generalize hnum : numE ⟨n, i, m, bias, first, out⟩ r (cntM l r k) = d at *
                      have HDd : Hid (digM (numC d) (biasC bias) = digM d bias) := by show _ = _; rw [numC_in hd.1 hd.2, biasC_in b0 (by omega)]
                      have HBb : Hid (biasM (numC d) (manyC (m + 1)) first = biasM d (m + 1) first) := by show _ = _; rw [numC_in hd.1 hd.2, manyC_in (by omega) (by omega)]
                      have hdl := dig_len (bias := bias) hd.1 hd.2
                      obtain ⟨hd0, hd1⟩ := hd
                      clear hnum q8 q9 HPU q5 heq HE4
                      go_wp2
                      go_loop [15, 16] (fun x15 x16 => ∃ j : Nat, j ≤ k ∧ x16 = .int .i64 j ∧ x15 = .int .i64 (cntM l r j)) (fun _ x16 => k - (intOf x16).toNat)
                      case atStart => exact ⟨0, Nat.zero_le _, rfl, rfl⟩
                      case round =>
                        obtain ⟨j, hj, rfl, rfl⟩ := hrel
                        have hcj := HCL.out r j
                        by_cases hlt5 : j < k
                        · have cj := HCC.out j (by omega)
                          have HN5 := Hid.mk' (HCN.out r j (by omega))
                          generalize l.getD j 0 = y at *
                          have hjz : (j : Int) < (k : Int) := by omega
                          by_cases hy : y ≤ r
                          · rw [if_pos hy] at HN5
                            go_wp2
                            go_round
                            case rel => exact ⟨j + 1, by omega, by go_num, by rw [HN5.out]; go_num⟩
                            case measure => simp [intOf]; omega
                          · rw [if_neg hy] at HN5
                            have hyd : decide (y ≤ r) = false := decide_eq_false hy
                            go_wp2
                            go_round
                            case rel => exact ⟨j + 1, by omega, by go_num, by rw [HN5.out]; rfl⟩
                            case measure => simp [intOf]; omega
                        · obtain rfl : j = k := by omega
                          have hjd : decide ((j : Int) < (j : Int)) = false := by simp
                          generalize cntM l r j = ah at *
                          have HDC : Hid (Calls Tryd.prog 32 #[.int .i64 ((r - n) * (m + 1) + (ah : Int) - i), .int .i64 bias] wr fun e w' => e = .returned (.string (strOfNums (digM d bias))) ∧ Below wr.heap.size wr w') := by
                            have := HDG.out wr d bias
                            rw [HDd.out] at this
                            rw [← HNM.out]
                            exact this
                          have HBC : Hid (∀ W, Calls Tryd.prog 30 #[.int .i64 ((r - n) * (m + 1) + (ah : Int) - i), .int .i64 (m + 1), .bool first] W fun e w' => e = .returned (.int .i64 (biasM d (m + 1) first)) ∧ W = w') := fun W => by
                            have := HBI.out W d (m + 1) first
                            rw [HBb.out] at this
                            rw [← HNM.out]
                            exact this
                          have hsd : (strOfNums (digM d bias)).size ≤ 11 := by rw [strOfNums_size]; exact hdl
                          have HNS : Hid (s ++ strOfNums (digM d bias) = strOfNums (out ++ digM d bias)) := by show _ = _; rw [HS4.out, strOf_append]
                          have HNZ : Hid ((s ++ strOfNums (digM d bias)).size ≤ 100000) := by show _ ≤ _; rw [HNS.out, strOfNums_size]; exact HQ9.out
                          generalize digM d bias = D at *
                          generalize biasM d (m + 1) first = nb at *
                          generalize strOfNums D = sd at *
                          clear HQ9 HS4 HDd HBb HNM HCC
                          go_wp2_with fail
                          refine HDC.out.mono ?_
                          rintro e w5 ⟨rfl, hb5⟩
                          have HB5 : Hid (Below w.heap.size w w5) := HB4.out.trans (hb5.mono HB4.out.size)
                          clear hb5
                          go_wp2_with fail
                          refine (HBC.out _).mono ?_
                          rintro e w6 ⟨rfl, rfl⟩
                          go_wp2
                          go_roundw
                          case rel => exact ⟨_, r, (ah : Int) + 1, m + 1, nb, false, out ++ D, j + 1, rfl, rfl, rfl, rfl, rfl, rfl, by go_num, by omega, HNZ.out, HNS, HQ8, HB5⟩
                          case measure => simp [intOf]; omega
                    · have hcb : ((l.getD k 0) != r) = true := by simpa using heq
                      have HNX : Hid (afterE l (doneM l r ((k + 1 : Nat) : Int)) = ⟨n, i, m, bias, first, out⟩) := by
                        show _ = _
                        rw [← HE4.out]
                        congr 1
                        exact HMS.out r k heq
                      clear heq HE4 HCC
                      generalize l.getD k 0 = x at *
                      go_wp2
                      go_roundw
                      case rel => exact ⟨s, n, i, m, bias, first, out, k + 1, rfl, rfl, rfl, rfl, rfl, rfl, by go_num, by omega, hsz4, HS4, HNX, HB4⟩
                      case measure => simp [intOf]; omega
                  · obtain rfl : k = l.length := by omega
                    have hkd4 : decide ((l.length : Int) < (l.length : Int)) = false := by simp
                    have HF := HF2.out r hr128
                    rw [HE4.out] at HF
                    have HFF := Hid.mk' HF
                    have HLF := Hid.mk' (HLE.out wr r HB4.out)
                    have HMM : Hid (measR (leastM l r) < measR r) := by
                      show _ < _
                      have hneg : ¬ r < 0 := by omega
                      rcases HF with ⟨e, -⟩ | ⟨e1, e2, -⟩
                      · rw [e]
                        unfold measR
                        rw [if_pos (by omega), if_neg hneg]
                        omega
                      · rcases least_next (l := l) (r := r) (by omega) with ⟨e, -⟩ | ⟨e, -, -⟩
                        · omega
                        · unfold measR
                          rw [if_neg (by omega), if_neg hneg]
                          omega
                    clear HF HE4
                    generalize leastM l r = r2 at *
                    go_wp2_with fail
                    refine HLF.out.mono ?_
                    rintro e w5 ⟨rfl, rfl⟩
                    go_wp2
                    go_roundw
                    case rel => exact ⟨s, n, i, m, bias, first, out, r2, rfl, rfl, rfl, rfl, rfl, rfl, rfl, hsz4, HS4, HFF, HB4⟩
                    case measure => exact HMM.out
end Go.Proofs.YtockmkcoehepiaaDoor

/-
  What is proved here: what puny's decoder does when it reads a number.
-/
import Derived.Test.YtockmkcoehepiaaDoorIC
namespace Go.Proofs.YtockmkcoehepiaaDoor
open Go.RowKit

/-- a text's bytes, as numbers -/
def bytesM (s : ByteArray) : List Int := s.data.toList.map (fun c => (c.toNat : Int))
theorem bytes_len (s : ByteArray) : (bytesM s).length = s.size := by unfold bytesM; rw [List.length_map, Array.length_toList]; rfl
theorem bytes_at (s : ByteArray) (k : Nat) (h : k < s.size) : (bytesM s).getD k 0 = ((s[k]'h).toNat : Int) := by
  have h' : k < s.data.size := h
  unfold bytesM
  rw [List.getD_eq_getElem?_getD, List.getElem?_map, List.getElem?_eq_getElem (by rw [Array.length_toList]; exact h')]
  rfl
theorem bytes_drop (s : ByteArray) (k : Nat) (h : k < s.size) : (bytesM s).drop k = ((s[k]'h).toNat : Int) :: (bytesM s).drop (k + 1) := by
  have h' : k < (bytesM s).length := by rw [bytes_len]; exact h
  rw [List.drop_eq_getElem_cons h']
  congr 1
  have := bytes_at s k h
  rw [List.getD_eq_getElem?_getD, List.getElem?_eq_getElem h'] at this
  exact this
section
variable (B : Nat) (T : TypeId) (s : ByteArray) (bias : Int) (x1 x2 x3 x4 v : Value)
/-- what number leaves of what it read -/
def NumIs (w w' : World) (p : Nat → Addr) (e : Ending) : NumR → Prop
  | .bad a c => ∃ fv, e = .returned (.tuple #[.int .i64 0, fv]) ∧ Flt w' fv w.heap.size a (p c) ∧ Below B w w'
  | .ok d _ a => e = .returned (.tuple #[.int .i64 d, .nilIface]) ∧ Blk w' B T [.int .i64 bias, x1, x2, x3, x4, .string s, .int .i64 (a : Int), v] ∧ On B w w'
theorem num_bad (w w2 : World) (p : Nat → Addr) (ho : On B w w2) (hB : B ≤ w.heap.size) (a c : Nat) : NumIs B T s bias x1 x2 x3 x4 v w ((w2.alloc (.cells #[.int .i64 (a : Int), .iface 204 (.pointer (some (p c)))] 66)).drew) p (.returned (.tuple #[.int .i64 0, .iface 62 (.pointer (some ⟨w2.heap.size, 0, none⟩))])) (.bad a c) := by
  unfold NumIs
  exact ⟨_, rfl, ⟨w2.heap.size, ho.size, rfl, by simp, by simp⟩, ((ho.below hB).alloc (Nat.le_trans hB ho.size) _).drew⟩
set_option maxRecDepth 100000 in
set_option maxHeartbeats 2000000 in
theorem number_any (at0 : Nat) (w : World) (p : Nat → Addr) (h : Blk w B T [.int .i64 bias, x1, x2, x3, x4, .string s, .int .i64 (at0 : Int), v]) (hs : s.size ≤ 120) (ha : at0 ≤ s.size) (hb0 : 0 ≤ bias) (hb1 : bias ≤ 1000) (hG : ∀ W, On B w W → Gl p W) :
    Calls Tryd.prog 108 #[.pointer (some ⟨B, 0, none⟩)] w fun e w' => NumIs B T s bias x1 x2 x3 x4 v w w' p e (rdM bias ((bytesM s).drop at0) at0 0 0 1) := by
  have HR : Hid (rdM bias ((bytesM s).drop at0) at0 0 0 1 = rdM bias ((bytesM s).drop at0) at0 0 0 1) := rfl
  generalize hres : rdM bias ((bytesM s).drop at0) at0 0 0 1 = R at *
  have HRR := Hid.mk' hres
  have hBs := Nat.le_of_lt h.lt
  have H0 := Hid.mk' h
  have HG := Hid.mk' hG
  clear hres HR h hG
  go_enter Tryd.func108, Tryd.ntmps108
  go_wp2
  go_loopw [4, 5, 6] (fun a b c wr => ∃ (sum u : Int) (k at1 : Nat), a = .int .i64 sum ∧ b = .int .i64 u ∧ c = .int .i64 k ∧ 0 ≤ sum ∧ sum ≤ 2147483647 ∧ 1 ≤ u ∧ u ≤ 75161927645 ∧ k ≤ s.size ∧ at1 ≤ s.size ∧ Hid (at1 = at0 + k) ∧ Hid (Blk wr B T [.int .i64 bias, x1, x2, x3, x4, .string s, .int .i64 (at1 : Int), v]) ∧ Hid (On B w wr) ∧ Hid (rdM bias ((bytesM s).drop at1) at1 k sum u = R)) (fun _ _ c _ => s.size - (intOf c).toNat)
  case atStart => exact ⟨0, 1, 0, at0, rfl, rfl, rfl, by omega, by omega, by omega, by omega, Nat.zero_le _, ha, rfl, H0, On.refl _ _, HRR⟩
  case round =>
    obtain ⟨sum, u, k, at1, rfl, rfl, rfl, hs0, hs1, hu0, hu1, hk, hat, HAT, HB, HO, HE⟩ := hrel
    clear H0 HRR
    have c0 := HB.out.cell 0 rfl
    have c5 := HB.out.cell 5 rfl
    have c6 := HB.out.cell 6 rfl
    by_cases hlt : at1 < s.size
    · have hltz : (at1 : Int) < (s.size : Int) := by omega
      have hdl : decide ((at1 : Int) < (s.size : Int)) = true := decide_eq_true hltz
      go_wp2
      go_quiet (fail)
      have HB1 : Hid (Blk (wr.drewN nq) B T [.int .i64 bias, x1, x2, x3, x4, .string s, .int .i64 (at1 : Int), v]) := HB.out
      have HO1 : Hid (On B w (wr.drewN nq)) := HO.out.trans ⟨rfl, rfl, rfl, Nat.le_refl _, fun _ _ _ => rfl⟩
      clear c0 c5 c6 HB HO
      generalize wr.drewN nq = w1 at *
      have c0 := HB1.out.cell 0 rfl
      have c5 := HB1.out.cell 5 rfl
      have c6 := HB1.out.cell 6 rfl
      go_wp2
      have hbd := UInt8.toNat_lt (s[at1]'hlt)
      have HV : Hid (∀ W, _) := fun W => valueOf_any ((s[at1]'hlt).toNat : Int) W (by omega) (by omega)
      have hvb := val_bd ((s[at1]'hlt).toNat : Int)
      have ht := bnd_bd k bias
      have HE' : Hid ((if valM ((s[at1]'hlt).toNat : Int) < 0 then NumR.bad at1 15 else if 2147483647 < sum + valM ((s[at1]'hlt).toNat : Int) * u then .bad at1 3 else if valM ((s[at1]'hlt).toNat : Int) < bndM k bias then .ok (sum + valM ((s[at1]'hlt).toNat : Int) * u) ((bytesM s).drop (at1 + 1)) (at1 + 1) else rdM bias ((bytesM s).drop (at1 + 1)) (at1 + 1) (k + 1) (sum + valM ((s[at1]'hlt).toNat : Int) * u) (u * (36 - bndM k bias))) = R) := by
        have := HE.out
        rw [bytes_drop s at1 hlt, rdM] at this
        exact this
      have HN : Hid (valN ((s[at1]'hlt).toNat : Int) = if valM ((s[at1]'hlt).toNat : Int) < 0 then 0 else valM ((s[at1]'hlt).toNat : Int)) := rfl
      have HVB : Hid (valB ((s[at1]'hlt).toNat : Int) = decide (0 ≤ valM ((s[at1]'hlt).toNat : Int))) := rfl
      clear HE
      go_quiet ((go_at_call 132; exact Calls.quiet_of_same ((HV.out _).mono (fun _ _ h => ⟨h.1, h.2.symm⟩))))
      have HB2 : Hid (Blk (w1.drewN nq) B T [.int .i64 bias, x1, x2, x3, x4, .string s, .int .i64 (at1 : Int), v]) := HB1.out
      have HO2 : Hid (On B w (w1.drewN nq)) := HO1.out.trans ⟨rfl, rfl, rfl, Nat.le_refl _, fun _ _ _ => rfl⟩
      clear c0 c5 c6 HB1 HO1 HV hbd
      generalize valM ((s[at1]'hlt).toNat : Int) = y at *
      generalize valN ((s[at1]'hlt).toNat : Int) = yn at *
      generalize valB ((s[at1]'hlt).toNat : Int) = yb at *
      generalize w1.drewN nq = w2 at *
      have c0 := HB2.out.cell 0 rfl
      have c6 := HB2.out.cell 6 rfl
      obtain ⟨hy0, hy1⟩ := hvb
      by_cases h1 : y < 0
      · obtain rfl : yb = false := by rw [HVB.out]; exact decide_eq_false (by omega)
        have HX : Hid (NumR.bad at1 15 = R) := (if_pos h1).symm.trans HE'.out
        have g15 := (HG.out w2 HO2.out).g15
        have HW := Hid.mk' (num_bad B T s bias x1 x2 x3 x4 v w w2 p HO2.out hBs at1 15)
        rw [HX.out] at HW
        clear HE' HN HVB HB2 HX
        go_wp2
        go_region
        go_wp2
        go_ret2
        exact HW.out
      · obtain rfl : yb = true := by rw [HVB.out]; exact decide_eq_true (by omega)
        obtain rfl : yn = y := by rw [HN.out, if_neg h1]
        rw [if_neg h1] at HE'
        have hp0 : 0 ≤ yn * u := Int.mul_nonneg (by omega) (by omega)
        have hp1 : yn * u ≤ 35 * 75161927645 := by
          have e1 : yn * u ≤ 35 * u := Int.mul_le_mul_of_nonneg_right hy1 (by omega)
          omega
        clear HVB HN
        by_cases h2 : 2147483647 < sum + yn * u
        · have HX : Hid (NumR.bad at1 3 = R) := (if_pos h2).symm.trans HE'.out
          have g3 := (HG.out w2 HO2.out).g3
          have HW := Hid.mk' (num_bad B T s bias x1 x2 x3 x4 v w w2 p HO2.out hBs at1 3)
          rw [HX.out] at HW
          clear HE' HB2 HX
          go_wp2
          go_region
          go_wp2
          go_ret2
          exact HW.out
        · rw [if_neg h2] at HE'
          have h2' : decide (2147483647 < sum + yn * u) = false := decide_eq_false h2
          have f6 := HB2.out.free 6
          have HB3 : Hid (Blk (w2.setCell ⟨B, 6, none⟩ (.int .i64 ((at1 : Int) + 1))) B T [.int .i64 bias, x1, x2, x3, x4, .string s, .int .i64 ((at1 : Int) + 1), v]) := HB2.out.set 6 _
          have HO3 : Hid (On B w (w2.setCell ⟨B, 6, none⟩ (.int .i64 ((at1 : Int) + 1)))) := HO2.out.set 6 _
          have hu1' : yn * u + sum ≤ 2147483647 := by omega
          have HBD : Hid (Calls Tryd.prog 110 #[.pointer (some ⟨B, 0, none⟩), .int .i64 (k : Int)] (w2.setCell ⟨B, 6, none⟩ (.int .i64 ((at1 : Int) + 1))) _) := bound_any B k bias _ (HB3.out.cell 0 rfl) (by omega) (by omega) hb0 hb1
          generalize bndM k bias = t at *
          obtain ⟨ht1, ht2⟩ := ht
          clear HB2 HO2
          by_cases h3 : yn < t
          · have HX : Hid (NumR.ok (sum + yn * u) ((bytesM s).drop (at1 + 1)) (at1 + 1) = R) := (if_pos h3).symm.trans HE'.out
            have HW : Hid (NumIs B T s bias x1 x2 x3 x4 v w (w2.setCell ⟨B, 6, none⟩ (.int .i64 ((at1 : Int) + 1))) p (.returned (.tuple #[.int .i64 (sum + yn * u), .nilIface])) R) := by
              rw [← HX.out]
              exact ⟨rfl, HB3.out, HO3.out⟩
            clear HE' HX HB3 HO3
            go_wp2_with fail
            refine HBD.out.mono ?_
            rintro e w3 ⟨rfl, rfl⟩
            go_wp2
            go_ret2
            exact HW.out
          · rw [if_neg h3] at HE'
            have h3' : decide (yn < t) = false := decide_eq_false h3
            have h3'' : t ≤ yn := by omega
            have hyu : u ≤ yn * u := by
              have e1 : 1 * u ≤ yn * u := Int.mul_le_mul_of_nonneg_right (by omega) (by omega)
              omega
            have hu2 : 1 ≤ u * (36 - t) := by
              have := Int.mul_le_mul_of_nonneg_left (show (1 : Int) ≤ 36 - t by omega) (show (0 : Int) ≤ u by omega)
              omega
            have hu3 : u * (36 - t) ≤ 75161927645 := by
              have e1 : u * (36 - t) ≤ 2147483647 * (36 - t) := Int.mul_le_mul_of_nonneg_right (by omega) (by omega)
              omega
            go_wp2_with fail
            refine HBD.out.mono ?_
            rintro e w3 ⟨rfl, rfl⟩
            go_wp2
            go_roundw
            case rel => exact ⟨sum + yn * u, u * (36 - t), k + 1, at1 + 1, rfl, rfl, by go_num, by omega, by omega, hu2, hu3, by have := HAT.out; omega, by omega, by show _ = _; have := HAT.out; omega, HB3, HO3, HE'⟩
            case measure => simp [intOf]; have := HAT.out; omega
    · obtain rfl : at1 = s.size := by omega
      have hdl : decide ((s.size : Int) < (s.size : Int)) = false := by simp
      have HX : Hid (NumR.bad s.size 2 = R) := by
        show _ = _
        have := HE.out
        rw [List.drop_of_length_le (by rw [bytes_len]; exact Nat.le_refl _), rdM] at this
        exact this
      have HB1 : Hid (∀ q, Blk (wr.drewN q) B T [.int .i64 bias, x1, x2, x3, x4, .string s, .int .i64 (s.size : Int), v]) := fun q => HB.out
      have HO1 : Hid (∀ q, On B w (wr.drewN q)) := fun q => HO.out.trans ⟨rfl, rfl, rfl, Nat.le_refl _, fun _ _ _ => rfl⟩
      clear HB HO HE
      go_wp2
      go_quiet (fail)
      have HB2 := Hid.mk' (HB1.out nq)
      have HO2 := Hid.mk' (HO1.out nq)
      clear c0 c5 c6 HB1 HO1
      generalize wr.drewN nq = w2 at *
      have c6 := HB2.out.cell 6 rfl
      have g2 := (HG.out w2 HO2.out).g2
      have HW := Hid.mk' (num_bad B T s bias x1 x2 x3 x4 v w w2 p HO2.out hBs s.size 2)
      rw [HX.out] at HW
      clear HB2 HO2 HX
      go_wp2
      go_region
      go_wp2
      go_ret2
      exact HW.out
end
end Go.Proofs.YtockmkcoehepiaaDoor

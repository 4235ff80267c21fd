/-
  What is proved here: what the reference's Escape (layer 2) answers.
-/
import Derived.Test.YteflghhpdikidaaDoorRefE0
namespace Go.Proofs.YteflghhpdikidaaDoor
open Go.RowKit

set_option maxRecDepth 20000 in
set_option maxHeartbeats 600000 in
theorem refEscape_any (s keep : ByteArray) (w : World) (hs : s.size ≤ 1073741824) (hk : keep.size ≤ 2147483648) :
    Calls Tryd.prog 15 #[.string s, .string keep] w fun e w' => e = .returned (.string ⟨(Pct.esf keep.data.toList s.data.toList).toArray⟩) ∧ Below w.heap.size w w' := by
  go_enter Tryd.func15, Tryd.ntmps15
  go_wp2
  go_loopw [5, 6, 7] (fun t i _ wr => ∃ (k : Nat) (T : ByteArray), k ≤ s.size ∧ i = .int .i64 k ∧ t = .string T ∧ T.size ≤ 3 * k ∧ Below w.heap.size w wr ∧ Hid (T.data.toList = Pct.esf keep.data.toList (s.data.toList.take k))) (fun _ i _ _ => s.size - (intOf i).toNat)
  case atStart => exact ⟨0, ⟨#[]⟩, Nat.zero_le _, rfl, rfl, by decide, Below.refl _ _, rfl⟩
  case round =>
    obtain ⟨k, T, hk', rfl, rfl, hT, hbel, HT⟩ := hrel
    by_cases hlt : k < s.size
    · have hb256 : s[k].toNat < 256 := s[k].toNat_lt
      have HE := Hid.mk' (esf_snoc keep.data.toList s k hlt)
      have HP := Hid.mk' (fun w => refPlain_any s[k].toNat w hb256)
      have HH := Hid.mk' (fun w => refHas_any keep s[k].toNat w hk)
      have hstay : Pct.stay keep.data.toList s[k].toNat = (s[k].toNat != 37 && (Pct.plain s[k].toNat || hasB [keep] s[k].toNat)) := by rw [hasB_one]; rfl
      have hpl37 : Pct.plain 37 = false := by decide
      have hx1 : (s.extract k (k + 1)).size = 1 := by
        have : (s.extract k (k + 1)).data.toList.length = (s.extract k (k + 1)).size := rfl
        rw [cut_one s k hlt] at this; exact this.symm
      have HY : Hid (Pct.stay keep.data.toList s[k].toNat = true → (T ++ s.extract k (k + 1)).data.toList = Pct.esf keep.data.toList (s.data.toList.take (k + 1))) := by
        intro hy
        rw [HE.out, ← HT.out, ByteArray.data_append, Array.toList_append, cut_one s k hlt]
        unfold Pct.form; rw [if_pos hy]
      cases hpl : Pct.plain s[k].toNat
      · rw [hpl] at HP
        by_cases h37 : s[k].toNat = 37
        · have hz : ((s[k].toNat : Int) != 37) = false := by simp; omega
          have hst : Pct.stay keep.data.toList s[k].toNat = false := by rw [hstay]; simp [h37]
          have HF : Hid (Pct.form keep.data.toList s[k] = [37, Pct.hexD (s[k].toNat / 16), Pct.hexD (s[k].toNat % 16)]) := by
            show _ = _
            unfold Pct.form; rw [hst]; rfl
          have hcv := conv_new wr [37, ((Pct.hexD (s[k].toNat / 16)).toNat : Int), ((Pct.hexD (s[k].toNat % 16)).toNat : Int)]
          have hcs : (strOfNums [37, ((Pct.hexD (s[k].toNat / 16)).toNat : Int), ((Pct.hexD (s[k].toNat % 16)).toNat : Int)]).size = 3 := strOfNums_size _
          have HR : Hid ((T ++ strOfNums [37, ((Pct.hexD (s[k].toNat / 16)).toNat : Int), ((Pct.hexD (s[k].toNat % 16)).toNat : Int)]).data.toList = Pct.esf keep.data.toList (s.data.toList.take (k + 1))) := by
            show _ = _
            rw [HE.out, ← HT.out, ByteArray.data_append, Array.toList_append, strOfNums_data, HF.out]
            simp
          simp only [List.map_cons, List.map_nil, List.length_cons, List.length_nil, Nat.zero_add, Nat.reduceAdd] at hcv
          generalize strOfNums [37, ((Pct.hexD (s[k].toNat / 16)).toNat : Int), ((Pct.hexD (s[k].toNat % 16)).toNat : Int)] = X at *
          have e1 : ((s[k].toNat : Int) / 16).toNat = s[k].toNat / 16 := by omega
          have e2 : ((s[k].toNat : Int) % 16).toNat = s[k].toNat % 16 := by omega
          have HSZ : Hid ((T ++ X).size ≤ 3 * (k + 1)) := by show _ ≤ _; rw [ByteArray.size_append, hcs]; omega
          have HBA := Hid.mk' (hbel.alloc hbel.size (.cells #[.int .u8 37, .int .u8 ((Pct.hexD (s[k].toNat / 16)).toNat : Int), .int .u8 ((Pct.hexD (s[k].toNat % 16)).toNat : Int)] 5))
          clear hstay hst hpl hpl37 h37

          go_wp2_with (first | (go_at_call 18; refine (HP.out _).mono ?_; rintro e w1 ⟨rfl, rfl⟩) | (go_at_call 33; refine (refHex_any _ _ ?_ ?_).mono ?_; omega; omega; rintro e w1 ⟨rfl, rfl⟩))


          go_roundw
          case rel => exact ⟨k + 1, _, by omega, by go_num, rfl, HSZ.out, HBA.out, HR⟩
          case measure => simp [intOf]; omega
        · have hz : ((s[k].toNat : Int) != 37) = true := by simp; omega
          cases hh : hasB [keep] s[k].toNat
          · rw [hh] at HH
            have hst : Pct.stay keep.data.toList s[k].toNat = false := by rw [hstay, hpl, hh]; simp
            have HF : Hid (Pct.form keep.data.toList s[k] = [37, Pct.hexD (s[k].toNat / 16), Pct.hexD (s[k].toNat % 16)]) := by
              show _ = _
              unfold Pct.form; rw [hst]; rfl
            have hcv := conv_new wr [37, ((Pct.hexD (s[k].toNat / 16)).toNat : Int), ((Pct.hexD (s[k].toNat % 16)).toNat : Int)]
            have hcs : (strOfNums [37, ((Pct.hexD (s[k].toNat / 16)).toNat : Int), ((Pct.hexD (s[k].toNat % 16)).toNat : Int)]).size = 3 := strOfNums_size _
            have HR : Hid ((T ++ strOfNums [37, ((Pct.hexD (s[k].toNat / 16)).toNat : Int), ((Pct.hexD (s[k].toNat % 16)).toNat : Int)]).data.toList = Pct.esf keep.data.toList (s.data.toList.take (k + 1))) := by
              show _ = _
              rw [HE.out, ← HT.out, ByteArray.data_append, Array.toList_append, strOfNums_data, HF.out]
              simp
            simp only [List.map_cons, List.map_nil, List.length_cons, List.length_nil, Nat.zero_add, Nat.reduceAdd] at hcv
            generalize strOfNums [37, ((Pct.hexD (s[k].toNat / 16)).toNat : Int), ((Pct.hexD (s[k].toNat % 16)).toNat : Int)] = X at *
            have e1 : ((s[k].toNat : Int) / 16).toNat = s[k].toNat / 16 := by omega
            have e2 : ((s[k].toNat : Int) % 16).toNat = s[k].toNat % 16 := by omega
            have HSZ : Hid ((T ++ X).size ≤ 3 * (k + 1)) := by show _ ≤ _; rw [ByteArray.size_append, hcs]; omega
            have HBA := Hid.mk' (hbel.alloc hbel.size (.cells #[.int .u8 37, .int .u8 ((Pct.hexD (s[k].toNat / 16)).toNat : Int), .int .u8 ((Pct.hexD (s[k].toNat % 16)).toNat : Int)] 5))
            clear hstay hst hpl hh h37 hpl37
            go_wp2_with (first | (go_at_call 18; refine (HP.out _).mono ?_; rintro e w1 ⟨rfl, rfl⟩) | (go_at_call 32; refine (HH.out _).mono ?_; rintro e w1 ⟨rfl, rfl⟩) | (go_at_call 33; refine (refHex_any _ _ ?_ ?_).mono ?_; omega; omega; rintro e w1 ⟨rfl, rfl⟩))
            go_roundw
            case rel => exact ⟨k + 1, _, by omega, by go_num, rfl, HSZ.out, HBA.out, HR⟩
            case measure => simp [intOf]; omega
          · rw [hh] at HH
            have HR : Hid ((T ++ s.extract k (k + 1)).data.toList = Pct.esf keep.data.toList (s.data.toList.take (k + 1))) := HY.out (by rw [hstay, hpl, hh]; simpa using h37)
            clear hstay hpl hh h37 hpl37
            go_wp2_with (first | (go_at_call 18; refine (HP.out _).mono ?_; rintro e w1 ⟨rfl, rfl⟩) | (go_at_call 32; refine (HH.out _).mono ?_; rintro e w1 ⟨rfl, rfl⟩))
            go_roundw
            case rel => exact ⟨k + 1, _, by omega, by go_num, rfl, by rw [ByteArray.size_append, hx1]; omega, hbel, HR⟩
            case measure => simp [intOf]; omega
      · rw [hpl] at HP
        have h37 : s[k].toNat ≠ 37 := by intro e; rw [e, hpl37] at hpl; cases hpl
        have HR : Hid ((T ++ s.extract k (k + 1)).data.toList = Pct.esf keep.data.toList (s.data.toList.take (k + 1))) := HY.out (by rw [hstay, hpl]; simpa using h37)
        clear hstay hpl h37 hpl37
        go_wp2_with (first | (go_at_call 18; refine (HP.out _).mono ?_; rintro e w1 ⟨rfl, rfl⟩))
        go_roundw
        case rel => exact ⟨k + 1, _, by omega, by go_num, rfl, by rw [ByteArray.size_append, hx1]; omega, hbel, HR⟩
        case measure => simp [intOf]; omega
    · have HF : Hid (T = ⟨(Pct.esf keep.data.toList s.data.toList).toArray⟩) := by
        show _ = _
        have := HT.out
        rw [List.take_of_length_le (by have : s.data.toList.length = s.size := rfl; omega)] at this
        rw [← this]
      go_wp2
      go_ret
      rw [HF.out]
      exact ⟨rfl, hbel⟩
end Go.Proofs.YteflghhpdikidaaDoor

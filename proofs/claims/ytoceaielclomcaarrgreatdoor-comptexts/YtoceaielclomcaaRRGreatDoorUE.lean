/-
  What is proved here: what utf.appendForm and utf.Encode answer. · what utf.Encode answers at every list of at most 2^28 runes. · what the reference's Right and Form (layer 1) answer. · what the reference's Encode answers.
-/
import Derived.Test.YtoceaielclomcaaRRGreatDoorUW
import Derived.Laws.BytesArg
import Derived.BigQuiet
import Derived.Deep.QuietTactic
namespace Go.Proofs.YtoceaielclomcaaRRGreatDoor
open Go.RowKit

set_option maxHeartbeats 400000 in
theorem tailOf_any (r : Int) (w : World) (h0 : 0 ≤ r) (h1 : r ≤ 1114111) :
    Calls Tryz.prog 99 #[.int .i32 r] w fun e w' => e = .returned (.int .u8 (128 + r % 64)) ∧ w = w' := by
  go_enter Tryz.func99, Tryz.ntmps99
  go_wp2
  all_goals go_ret
  all_goals refine ⟨ret_int ?_, rfl⟩
  rw [i32_and63 h0 (by omega)]
  try rw [show r % 64 % 256 = r % 64 by omega]
  exact u8_or128 _ (by omega) (by omega)

set_option maxHeartbeats 1000000 in
theorem appendForm_any (r : Int) (v : Value) (n B : Nat) (xs : List Value) (w : World) (hr : 0 < Utf.width r) (hown : w.ownsRow B 5 1 v n xs) (hB : B ≤ w.heap.size) (hn : n ≤ 2147483648) :
    Calls Tryz.prog 66 #[v, .int .i32 r] w fun e w' => ∃ v', e = .returned v' ∧ w'.ownsRow B 5 1 v' (n + (Utf.form r).length) (xs ++ (Utf.form r).map (Value.int .u8)) ∧ Below B w w' := by
  obtain ⟨i0, hi, hz0, hz1, hz2⟩ := info_parts Tryz.infoByte
  have hb : (Utf.width r = 1 ∧ 0 ≤ r ∧ r < 128) ∨ (Utf.width r = 2 ∧ 128 ≤ r ∧ r < 2048) ∨ (Utf.width r = 3 ∧ 2048 ≤ r ∧ r < 65536) ∨ (Utf.width r = 4 ∧ 65536 ≤ r ∧ r ≤ 1114111) := by unfold Utf.width at hr ⊢; (repeat' split at hr) <;> omega
  rcases hb with ⟨hw, h0, h1⟩ | ⟨hw, h0, h1⟩ | ⟨hw, h0, h1⟩ | ⟨hw, h0, h1⟩
  · have HF : Hid (Utf.form r = [r]) := if_pos h1
    go_enter Tryz.func66, Tryz.ntmps66
    go_wp2_with (first | (go_at_call 98; refine (width_any _ _).mono ?_; rintro e w' ⟨rfl, rfl⟩; rw [hw]) | (at_builtin; refine wpList_append_own _ rfl _ _ 52 rfl B 5 i0 (.int .u8 0) 1 1 Tryz.underlying52 hi hz0 hz1 hz2 rfl (by decide) _ _ _ rfl (hown.alloc _) ⟨w.heap.size, 0, none⟩ 1 1 ([r].map (Value.int .u8)) rfl rfl (cells_new _ _ _) (ints_one _ _) (by unfold maxLen; omega) (by omega) (by simp; omega) ?_; intro v' w2 hown' hgrow _))
    go_ret
    rw [HF.out]
    exact ⟨_, rfl, hown', ((Below.refl _ _).alloc hB _).grown hgrow (by simp; omega) (fun j hj => (hown.lt j hj).1)⟩
  · have HF : Hid (Utf.form r = [192 + r / 64, 128 + r % 64]) := (if_neg (by omega)).trans (if_pos h1)
    go_enter Tryz.func66, Tryz.ntmps66
    go_wp2_with (first | (go_at_call 98; refine (width_any _ _).mono ?_; rintro e w' ⟨rfl, rfl⟩; rw [hw]) | (go_at_call 99; refine (tailOf_any _ _ ?_ ?_).mono ?_; omega; omega; rintro e w' ⟨rfl, rfl⟩) | (at_builtin; refine wpList_append_own _ rfl _ _ 52 rfl B 5 i0 (.int .u8 0) 1 1 Tryz.underlying52 hi hz0 hz1 hz2 rfl (by decide) _ _ _ rfl (hown.alloc _) ⟨w.heap.size, 0, none⟩ 2 2 ([192 + r / 64, 128 + r % 64].map (Value.int .u8)) rfl rfl (cells_new _ _ _) (ints_one _ _) (by unfold maxLen; omega) (by omega) (by simp; omega) ?_; intro v' w2 hown' hgrow _))
    go_ret
    rw [HF.out]
    exact ⟨_, rfl, hown', ((Below.refl _ _).alloc hB _).grown hgrow (by simp; omega) (fun j hj => (hown.lt j hj).1)⟩
  · have HF : Hid (Utf.form r = [224 + r / 4096, 128 + r / 64 % 64, 128 + r % 64]) := (if_neg (by omega)).trans ((if_neg (by omega)).trans (if_pos h1))
    go_enter Tryz.func66, Tryz.ntmps66
    go_wp2_with (first | (go_at_call 98; refine (width_any _ _).mono ?_; rintro e w' ⟨rfl, rfl⟩; rw [hw]) | (go_at_call 99; refine (tailOf_any _ _ ?_ ?_).mono ?_; omega; omega; rintro e w' ⟨rfl, rfl⟩) | (at_builtin; refine wpList_append_own _ rfl _ _ 52 rfl B 5 i0 (.int .u8 0) 1 1 Tryz.underlying52 hi hz0 hz1 hz2 rfl (by decide) _ _ _ rfl (hown.alloc _) ⟨w.heap.size, 0, none⟩ 3 3 ([224 + r / 4096, 128 + r / 64 % 64, 128 + r % 64].map (Value.int .u8)) rfl rfl (cells_new _ _ _) (ints_one _ _) (by unfold maxLen; omega) (by omega) (by simp; omega) ?_; intro v' w2 hown' hgrow _))
    go_ret
    rw [HF.out]
    exact ⟨_, rfl, hown', ((Below.refl _ _).alloc hB _).grown hgrow (by simp; omega) (fun j hj => (hown.lt j hj).1)⟩
  · have HF : Hid (Utf.form r = [240 + r / 262144, 128 + r / 4096 % 64, 128 + r / 64 % 64, 128 + r % 64]) := (if_neg (by omega)).trans ((if_neg (by omega)).trans (if_neg (by omega)))
    go_enter Tryz.func66, Tryz.ntmps66
    go_wp2_with (first | (go_at_call 98; refine (width_any _ _).mono ?_; rintro e w' ⟨rfl, rfl⟩; rw [hw]) | (go_at_call 99; refine (tailOf_any _ _ ?_ ?_).mono ?_; omega; omega; rintro e w' ⟨rfl, rfl⟩) | (at_builtin; refine wpList_append_own _ rfl _ _ 52 rfl B 5 i0 (.int .u8 0) 1 1 Tryz.underlying52 hi hz0 hz1 hz2 rfl (by decide) _ _ _ rfl (hown.alloc _) ⟨w.heap.size, 0, none⟩ 4 4 ([240 + r / 262144, 128 + r / 4096 % 64, 128 + r / 64 % 64, 128 + r % 64].map (Value.int .u8)) rfl rfl (cells_new _ _ _) (ints_one _ _) (by unfold maxLen; omega) (by omega) (by simp; omega) ?_; intro v' w2 hown' hgrow _))
    go_ret
    rw [HF.out]
    exact ⟨_, rfl, hown', ((Below.refl _ _).alloc hB _).grown hgrow (by simp; omega) (fun j hj => (hown.lt j hj).1)⟩
end Go.Proofs.YtoceaielclomcaaRRGreatDoor
namespace Go.Proofs.YtoceaielclomcaaRRGreatDoor
open Go.RowKit

set_option maxHeartbeats 400000 in
theorem utfRight_any (r : Int) (w : World) :
    Calls Tryz.prog 65 #[.int .i32 r] w fun e w' => e = .returned (.bool (decide (0 < Utf.width r))) ∧ w = w' := by
  go_enter Tryz.func65, Tryz.ntmps65
  go_wp2_with (go_at_call 98; refine (width_any _ _).mono ?_; rintro e w' ⟨rfl, rfl⟩)
  all_goals go_ret
  all_goals exact ⟨rfl, rfl⟩
/-- what utf.Encode leaves: the forms; or the place of the first rune that isn't right -/
def AnsE (w : World) (rs : List Int) (p : Nat → Addr) (e : Ending) (w' : World) : Prop :=
  Below w.heap.size w w' ∧ (((∀ r ∈ rs, 0 < Utf.width r) ∧ e = .returned (.tuple #[.string (strOfNums (rs.flatMap Utf.form)), .nilIface])) ∨
    (∃ k, k < rs.length ∧ (∀ r ∈ rs.take k, 0 < Utf.width r) ∧ ¬ 0 < Utf.width (rs.getD k 0) ∧ ∃ v, e = .returned (.tuple #[.string ⟨#[]⟩, v]) ∧ Flt w' v w.heap.size k (p 4)))

theorem anse_bad {w wr : World} {rs : List Int} {p : Nat → Addr} {k : Nat} (hbel : Below w.heap.size w wr) (hlt : k < rs.length) (ha : ∀ r ∈ rs.take k, 0 < Utf.width r) (hb : ¬ 0 < Utf.width (rs.getD k 0)) :
    AnsE w rs p (.returned (.tuple #[.string ⟨#[]⟩, .iface 63 (.pointer (some ⟨wr.heap.size, 0, none⟩))])) ((wr.alloc (.cells #[.int .i64 k, .iface 223 (.pointer (some (p 4)))] 65)).drew) :=
  ⟨(hbel.alloc hbel.size _).drew, .inr ⟨k, hlt, ha, hb, _, rfl, wr.heap.size, hbel.size, rfl, by simp, by simp⟩⟩

theorem take_snoc {rs : List Int} {k : Nat} (h : k < rs.length) : rs.take (k + 1) = rs.take k ++ [rs.getD k 0] := by
  rw [List.take_succ_eq_append_getElem h]; simp [List.getD, h]
theorem form_length (r : Int) : (Utf.form r).length ≤ 4 := by unfold Utf.form; (repeat' split) <;> simp
theorem forms_length (rs : List Int) : (rs.flatMap Utf.form).length ≤ 4 * rs.length := by
  induction rs with
  | nil => simp
  | cons r rs ih => have := form_length r; simp only [List.flatMap_cons, List.length_append, List.length_cons]; omega

set_option maxHeartbeats 1000000 in
theorem encode_any (v : Value) (rs : List Int) (w : World) (p : Nat → Addr) (hl : rs.length ≤ 268435456) (hg : Gl p w) (hv : Runes w v rs) :
    Calls Tryz.prog 37 #[v] w (AnsE w rs p) := by
  obtain ⟨a, cap, rfl, hv⟩ := hv
  have HV := Hid.mk' hv
  have HG := Hid.mk' hg
  clear hv hg
  go_enter Tryz.func37, Tryz.ntmps37
  go_wp2
  go_loopw [4, 9] (fun v i wr => ∃ k : Nat, k ≤ rs.length ∧ i = .int .i64 k ∧ wr.ownsRow w.heap.size 5 1 v ((rs.take k).flatMap Utf.form).length (((rs.take k).flatMap Utf.form).map (Value.int .u8)) ∧ Below w.heap.size w wr ∧ Hid (∀ r ∈ rs.take k, 0 < Utf.width r)) (fun _ i _ => rs.length - (intOf i).toNat)
  case atStart => exact ⟨0, Nat.zero_le _, rfl, World.ownsRow_nil _ _ _ _, Below.refl _ _, by intro r hr; simp at hr⟩
  case round =>
    obtain ⟨k, hk, rfl, hown, hbel, HA⟩ := hrel
    by_cases hlt : k < rs.length
    · obtain ⟨b, off, rfl, hc0⟩ := HV.out k hlt
      have hc := (hbel.cell (p := ⟨b, off + k, none⟩) (lt_of_cell hc0)).trans hc0
      clear hc0
      generalize hr : rs.getD k 0 = r at hc
      have HR := Hid.mk' hr
      clear hr
      by_cases hw : 0 < Utf.width r
      · have hfl := forms_length (rs.take k)
        have htl : (rs.take k).length ≤ k := List.length_take_le _ _
        have HP := Hid.mk' (appendForm_any r _ _ _ _ wr hw hown hbel.size (by omega))
        go_wp2_with (first | (go_at_call 65; refine (utfRight_any _ _).mono ?_; rintro e w' ⟨rfl, rfl⟩) | (go_at_call 66; refine HP.out.mono ?_; rintro e w1 ⟨v', rfl, hown', hb1⟩))
        have R1 := hbel.trans hb1
        have R2 : w1.ownsRow w.heap.size 5 1 v' ((rs.take (k + 1)).flatMap Utf.form).length (((rs.take (k + 1)).flatMap Utf.form).map (Value.int .u8)) := by
          rw [take_snoc hlt, HR.out]; simpa using hown'
        have R3 : Hid (∀ r ∈ rs.take (k + 1), 0 < Utf.width r) := by
          intro q hq
          rw [take_snoc hlt, HR.out] at hq
          rcases List.mem_append.1 hq with h | h
          · exact HA.out q h
          · rw [List.mem_singleton.1 h]; exact hw
        clear hown' hown
        go_roundw
        case rel => exact ⟨k + 1, by omega, by go_num, R2, R1, R3⟩
        case measure => simp [intOf]; omega
      · have g4 := (HG.out.below hbel).g4
        have hw' : Utf.width r ≤ 0 := by omega
        have hwb : decide (0 < Utf.width r) = false := by simpa using hw'
        clear hw
        go_wp2_with (go_at_call 65; refine (utfRight_any _ _).mono ?_; rintro e w' ⟨rfl, rfl⟩)
        go_region
        go_wp2
        go_ret2
        exact anse_bad hbel hlt HA.out (by rw [HR.out]; exact Int.not_lt.2 hw')
    · have ht : rs.take k = rs := List.take_of_length_le (by omega)
      rw [ht] at hown HA
      have hconv := conv_own rfl hown
      go_wp2
      go_ret2
      exact ⟨hbel, .inl ⟨HA.out, rfl⟩⟩
end Go.Proofs.YtoceaielclomcaaRRGreatDoor
namespace Go.Proofs.YtoceaielclomcaaRRGreatDoor
open Go.RowKit

set_option maxHeartbeats 400000 in
theorem refRight_any (r : Int) (w : World) :
    Calls Tryz.prog 62 #[.int .i32 r] w fun e w' => e = .returned (.bool (decide (0 < Utf.width r))) ∧ w = w' := by
  go_enter Tryz.func62, Tryz.ntmps62
  go_wp2
  all_goals go_ret
  all_goals refine ⟨ret_bool ?_, rfl⟩
  all_goals (unfold Utf.width; rw [Bool.eq_iff_iff]; simp; (repeat' split) <;> omega)
/-- a new slice of bytes, as a text -/
theorem conv_newR (w : World) (bs : List Int) :
    (convert 52 9 (.slice (some ⟨w.heap.size, 0, none⟩) bs.length bs.length)).run Tryz.prog (w.alloc (.cells (bs.map (Value.int .u8)).toArray 5)) = .ok (.string (strOfNums bs)) (w.alloc (.cells (bs.map (Value.int .u8)).toArray 5)) := by
  refine run_convert_bytes_arg _ 52 5 Tryz.underlying52 Tryz.underlying5 w.heap.size 0 _ _ bs rfl (fun j hj => ?_) _ Tryz.underlying9
  rw [Nat.zero_add, World.cell?_alloc_new]
  simp [List.getElem?_eq_getElem hj]
set_option maxRecDepth 20000 in
set_option maxHeartbeats 1000000 in
theorem refForm_any (r : Int) (w : World) (hr : 0 < Utf.width r) :
    Calls Tryz.prog 68 #[.int .i32 r] w fun e w' => e = .returned (.string (strOfNums (Utf.form r))) ∧ Below w.heap.size w w' := by
  have hb : (0 ≤ r ∧ r < 128) ∨ (128 ≤ r ∧ r < 2048) ∨ (2048 ≤ r ∧ r < 65536) ∨ (65536 ≤ r ∧ r ≤ 1114111) := by unfold Utf.width at hr; (repeat' split at hr) <;> omega
  clear hr
  rcases hb with ⟨h0, h1⟩ | ⟨h0, h1⟩ | ⟨h0, h1⟩ | ⟨h0, h1⟩
  · have HF : Hid (Utf.form r = [r]) := if_pos h1
    have hc := conv_newR w [r]
    simp only [List.map_cons, List.map_nil, List.length_cons, List.length_nil, Nat.zero_add] at hc
    go_enter Tryz.func68, Tryz.ntmps68
    go_wp2
    go_ret
    rw [HF.out]
    exact ⟨rfl, (Below.refl _ _).alloc (Nat.le_refl _) _⟩
  · have HF : Hid (Utf.form r = [192 + r / 64, 128 + r % 64]) := (if_neg (by omega)).trans (if_pos h1)
    have hc := conv_newR w [192 + r / 64, 128 + r % 64]
    simp only [List.map_cons, List.map_nil, List.length_cons, List.length_nil, Nat.zero_add, Nat.reduceAdd] at hc
    go_enter Tryz.func68, Tryz.ntmps68
    go_wp2
    go_ret
    rw [HF.out]
    exact ⟨rfl, (Below.refl _ _).alloc (Nat.le_refl _) _⟩
  · have HF : Hid (Utf.form r = [224 + r / 4096, 128 + r / 64 % 64, 128 + r % 64]) := (if_neg (by omega)).trans ((if_neg (by omega)).trans (if_pos h1))
    have hc := conv_newR w [224 + r / 4096, 128 + r / 64 % 64, 128 + r % 64]
    simp only [List.map_cons, List.map_nil, List.length_cons, List.length_nil, Nat.zero_add, Nat.reduceAdd] at hc
    go_enter Tryz.func68, Tryz.ntmps68
    go_wp2
    go_ret
    rw [HF.out]
    exact ⟨rfl, (Below.refl _ _).alloc (Nat.le_refl _) _⟩
  · have HF : Hid (Utf.form r = [240 + r / 262144, 128 + r / 4096 % 64, 128 + r / 64 % 64, 128 + r % 64]) := (if_neg (by omega)).trans ((if_neg (by omega)).trans (if_neg (by omega)))
    have hc := conv_newR w [240 + r / 262144, 128 + r / 4096 % 64, 128 + r / 64 % 64, 128 + r % 64]
    simp only [List.map_cons, List.map_nil, List.length_cons, List.length_nil, Nat.zero_add, Nat.reduceAdd] at hc
    go_enter Tryz.func68, Tryz.ntmps68
    go_wp2
    go_ret
    rw [HF.out]
    exact ⟨rfl, (Below.refl _ _).alloc (Nat.le_refl _) _⟩
theorem strOfNums_append (a b : List Int) : strOfNums a ++ strOfNums b = strOfNums (a ++ b) := by
  apply ByteArray.ext
  simp [strOfNums]
end Go.Proofs.YtoceaielclomcaaRRGreatDoor
namespace Go.Proofs.YtoceaielclomcaaRRGreatDoor
open Go.RowKit

set_option maxHeartbeats 1000000 in
theorem refEncode_any (v : Value) (rs : List Int) (w : World) (hl : rs.length ≤ 268435456) (hv : Runes w v rs) (hr : ∀ r ∈ rs, 0 < Utf.width r) :
    Calls Tryz.prog 39 #[v] w fun e w' => e = .returned (.string (strOfNums (rs.flatMap Utf.form))) ∧ Below w.heap.size w w' := by
  obtain ⟨a, cap, rfl, hv⟩ := hv
  have HV := Hid.mk' hv
  have HR := Hid.mk' hr
  clear hv hr
  go_enter Tryz.func39, Tryz.ntmps39
  go_wp2
  go_loopw [3, 4] (fun t i wr => ∃ k : Nat, k ≤ rs.length ∧ i = .int .i64 k ∧ t = .string (strOfNums ((rs.take k).flatMap Utf.form)) ∧ Below w.heap.size w wr) (fun _ i _ => rs.length - (intOf i).toNat)
  case atStart => exact ⟨0, Nat.zero_le _, rfl, rfl, Below.refl _ _⟩
  case round =>
    obtain ⟨k, hk, rfl, rfl, hbel⟩ := hrel
    by_cases hlt : k < rs.length
    · obtain ⟨b, off, rfl, hc0⟩ := HV.out k hlt
      have hc := (hbel.cell (p := ⟨b, off + k, none⟩) (lt_of_cell hc0)).trans hc0
      clear hc0
      have hw : 0 < Utf.width (rs.getD k 0) := HR.out _ (by rw [List.getD, List.getElem?_eq_getElem hlt]; exact List.getElem_mem hlt)
      have HF := Hid.mk' (refForm_any (rs.getD k 0) wr hw)
      have HT : Hid (rs.take (k + 1) = rs.take k ++ [rs.getD k 0]) := take_snoc hlt
      have l1 := form_length (rs.getD k 0)
      have l2 := forms_length (rs.take k)
      have l3 : (rs.take k).length ≤ k := List.length_take_le _ _
      have s1 := strOfNums_size ((rs.take k).flatMap Utf.form)
      have s2 := strOfNums_size (Utf.form (rs.getD k 0))
      have ss1 : (strOfNums ((rs.take k).flatMap Utf.form)).size ≤ 1073741824 := by omega
      have ss2 : (strOfNums (Utf.form (rs.getD k 0))).size ≤ 4 := by omega
      have HA := Hid.mk' (strOfNums_append ((rs.take k).flatMap Utf.form) (Utf.form (rs.getD k 0)))
      generalize rs.getD k 0 = r at hc HF HT HA ss2
      clear s1 s2 l1 l2 l3 hw
      generalize strOfNums ((rs.take k).flatMap Utf.form) = x at HA ss1
      generalize strOfNums (Utf.form r) = y at HA ss2 HF
      go_wp2_with (go_at_call 68; refine HF.out.mono ?_; rintro e w1 ⟨rfl, hb1⟩)
      have HQ : Hid (Value.string (x ++ y) = Value.string (strOfNums ((rs.take (k + 1)).flatMap Utf.form))) := by
        show _ = _
        rw [HA.out, HT.out, List.flatMap_append]
        simp
      go_roundw
      case rel => exact ⟨k + 1, by omega, by go_num, HQ.out, hbel.trans (hb1.mono hbel.size)⟩
      case measure => simp [intOf]; omega
    · have ht : rs.take k = rs := List.take_of_length_le (by omega)
      rw [ht]
      go_wp2
      go_ret
      exact ⟨rfl, hbel⟩
end Go.Proofs.YtoceaielclomcaaRRGreatDoor

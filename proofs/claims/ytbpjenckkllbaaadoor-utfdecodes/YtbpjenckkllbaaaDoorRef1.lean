/-
  What is proved here: what the reference's Right, Form and Encode (layer 1) answer.
-/
import Derived.Test.YtbpjenckkllbaaaDoorEncode
import Derived.BigQuiet
import Derived.Deep.QuietTactic
namespace Go.Proofs.YtbpjenckkllbaaaDoor
open Go.RowKit

set_option maxHeartbeats 400000 in
theorem refRight_any (r : Int) (w : World) :
    Calls Tryd.prog 19 #[.int .i32 r] w fun e w' => e = .returned (.bool (decide (0 < Utf.width r))) ∧ w = w' := by
  go_enter Tryd.func19, Tryd.ntmps19
  go_wp2
  all_goals go_ret
  all_goals refine ⟨ret_bool ?_, rfl⟩
  all_goals (unfold Utf.width; rw [Bool.eq_iff_iff]; simp; (repeat' split) <;> omega)

/-- a new slice of bytes, as a text -/
theorem conv_new (w : World) (bs : List Int) :
    (convert 56 9 (.slice (some ⟨w.heap.size, 0, none⟩) bs.length bs.length)).run Tryd.prog (w.alloc (.cells (bs.map (Value.int .u8)).toArray 5)) = .ok (.string (strOfNums bs)) (w.alloc (.cells (bs.map (Value.int .u8)).toArray 5)) := by
  refine run_convert_bytes_arg _ 56 5 Tryd.underlying56 Tryd.underlying5 w.heap.size 0 _ _ bs rfl (fun j hj => ?_) _ Tryd.underlying9
  rw [Nat.zero_add, World.cell?_alloc_new]
  simp [List.getElem?_eq_getElem hj]

set_option maxRecDepth 20000 in
set_option maxHeartbeats 1000000 in
theorem refForm_any (r : Int) (w : World) (hr : 0 < Utf.width r) :
    Calls Tryd.prog 21 #[.int .i32 r] w fun e w' => e = .returned (.string (strOfNums (Utf.form r))) ∧ Below w.heap.size w w' := by
  have hb : (0 ≤ r ∧ r < 128) ∨ (128 ≤ r ∧ r < 2048) ∨ (2048 ≤ r ∧ r < 65536) ∨ (65536 ≤ r ∧ r ≤ 1114111) := by unfold Utf.width at hr; (repeat' split at hr) <;> omega
  clear hr
  rcases hb with ⟨h0, h1⟩ | ⟨h0, h1⟩ | ⟨h0, h1⟩ | ⟨h0, h1⟩
  · have HF : Hid (Utf.form r = [r]) := if_pos h1
    have hc := conv_new w [r]
    simp only [List.map_cons, List.map_nil, List.length_cons, List.length_nil, Nat.zero_add] at hc
    go_enter Tryd.func21, Tryd.ntmps21
    go_wp2
    go_ret
    rw [HF.out]
    exact ⟨rfl, (Below.refl _ _).alloc (Nat.le_refl _) _⟩
  · have HF : Hid (Utf.form r = [192 + r / 64, 128 + r % 64]) := (if_neg (by omega)).trans (if_pos h1)
    have hc := conv_new w [192 + r / 64, 128 + r % 64]
    simp only [List.map_cons, List.map_nil, List.length_cons, List.length_nil, Nat.zero_add, Nat.reduceAdd] at hc
    go_enter Tryd.func21, Tryd.ntmps21
    go_wp2
    go_ret
    rw [HF.out]
    exact ⟨rfl, (Below.refl _ _).alloc (Nat.le_refl _) _⟩
  · have HF : Hid (Utf.form r = [224 + r / 4096, 128 + r / 64 % 64, 128 + r % 64]) := (if_neg (by omega)).trans ((if_neg (by omega)).trans (if_pos h1))
    have hc := conv_new w [224 + r / 4096, 128 + r / 64 % 64, 128 + r % 64]
    simp only [List.map_cons, List.map_nil, List.length_cons, List.length_nil, Nat.zero_add, Nat.reduceAdd] at hc
    go_enter Tryd.func21, Tryd.ntmps21
    go_wp2
    go_ret
    rw [HF.out]
    exact ⟨rfl, (Below.refl _ _).alloc (Nat.le_refl _) _⟩
  · have HF : Hid (Utf.form r = [240 + r / 262144, 128 + r / 4096 % 64, 128 + r / 64 % 64, 128 + r % 64]) := (if_neg (by omega)).trans ((if_neg (by omega)).trans (if_neg (by omega)))
    have hc := conv_new w [240 + r / 262144, 128 + r / 4096 % 64, 128 + r / 64 % 64, 128 + r % 64]
    simp only [List.map_cons, List.map_nil, List.length_cons, List.length_nil, Nat.zero_add, Nat.reduceAdd] at hc
    go_enter Tryd.func21, Tryd.ntmps21
    go_wp2
    go_ret
    rw [HF.out]
    exact ⟨rfl, (Below.refl _ _).alloc (Nat.le_refl _) _⟩

theorem strOfNums_append (a b : List Int) : strOfNums a ++ strOfNums b = strOfNums (a ++ b) := by
  apply ByteArray.ext
  simp [strOfNums]

set_option maxHeartbeats 1000000 in
theorem refEncode_any (v : Value) (rs : List Int) (w : World) (hl : rs.length ≤ 268435456) (hv : Runes w v rs) (hr : ∀ r ∈ rs, 0 < Utf.width r) :
    Calls Tryd.prog 22 #[v] w fun e w' => e = .returned (.string (strOfNums (rs.flatMap Utf.form))) ∧ Below w.heap.size w w' := by
  obtain ⟨a, cap, rfl, hv⟩ := hv
  have HV := Hid.mk' hv
  have HR := Hid.mk' hr
  clear hv hr
  go_enter Tryd.func22, Tryd.ntmps22
  go_wp2
  go_loopw [3, 4] (fun t i wr => ∃ k : Nat, k ≤ rs.length ∧ i = .int .i64 k ∧ t = .string (strOfNums ((rs.take k).flatMap Utf.form)) ∧ Below w.heap.size w wr) (fun _ i _ => rs.length - (intOf i).toNat)
  case atStart => exact ⟨0, Nat.zero_le _, rfl, rfl, Below.refl _ _⟩
  case round =>
    obtain ⟨k, hk, rfl, rfl, hbel⟩ := hrel
    by_cases hlt : k < rs.length
    · obtain ⟨b, off, rfl, hc0⟩ := HV.out k hlt
      have hc := (hbel.cell (p := ⟨b, off + k, none⟩) (lt_of_cell hc0)).trans hc0
      clear hc0
      have hw : 0 < Utf.width (rs.getD k 0) := HR.out _ (by rw [List.getD, List.getElem?_eq_getElem hlt]; exact List.getElem_mem hlt)
      have HF := Hid.mk' (refForm_any (rs.getD k 0) wr hw)
      have HT : Hid (rs.take (k + 1) = rs.take k ++ [rs.getD k 0]) := take_snoc hlt
      have l1 := form_length (rs.getD k 0)
      have l2 := forms_length (rs.take k)
      have l3 : (rs.take k).length ≤ k := List.length_take_le _ _
      have s1 := strOfNums_size ((rs.take k).flatMap Utf.form)
      have s2 := strOfNums_size (Utf.form (rs.getD k 0))
      have ss1 : (strOfNums ((rs.take k).flatMap Utf.form)).size ≤ 1073741824 := by omega
      have ss2 : (strOfNums (Utf.form (rs.getD k 0))).size ≤ 4 := by omega
      have HA := Hid.mk' (strOfNums_append ((rs.take k).flatMap Utf.form) (Utf.form (rs.getD k 0)))
      generalize rs.getD k 0 = r at hc HF HT HA ss2
      clear s1 s2 l1 l2 l3 hw
      generalize strOfNums ((rs.take k).flatMap Utf.form) = x at HA ss1
      generalize strOfNums (Utf.form r) = y at HA ss2 HF
      go_wp2_with (go_at_call 21; refine HF.out.mono ?_; rintro e w1 ⟨rfl, hb1⟩)
      have HQ : Hid (Value.string (x ++ y) = Value.string (strOfNums ((rs.take (k + 1)).flatMap Utf.form))) := by
        show _ = _
        rw [HA.out, HT.out, List.flatMap_append]
        simp
      go_roundw
      case rel => exact ⟨k + 1, by omega, by go_num, HQ.out, hbel.trans (hb1.mono hbel.size)⟩
      case measure => simp [intOf]; omega
    · have ht : rs.take k = rs := List.take_of_length_le (by omega)
      rw [ht]
      go_wp2
      go_ret
      exact ⟨rfl, hbel⟩
end Go.Proofs.YtbpjenckkllbaaaDoor

/-
  What is proved here: what the reference's Right and Form (layer 1) answer.
-/
import Derived.Test.YteflghhpdikidaaDoorWalk1
import Derived.BigQuiet
import Derived.Deep.QuietTactic
namespace Go.Proofs.YteflghhpdikidaaDoor
open Go.RowKit

set_option maxHeartbeats 400000 in
theorem refRight_any (r : Int) (w : World) :
    Calls Tryd.prog 60 #[.int .i32 r] w fun e w' => e = .returned (.bool (decide (0 < Utf.width r))) ∧ w = w' := by
  go_enter Tryd.func60, Tryd.ntmps60
  go_wp2
  all_goals go_ret
  all_goals refine ⟨ret_bool ?_, rfl⟩
  all_goals (unfold Utf.width; rw [Bool.eq_iff_iff]; simp; (repeat' split) <;> omega)
/-- a new slice of bytes, as a text -/
theorem conv_newR (w : World) (bs : List Int) :
    (convert 52 9 (.slice (some ⟨w.heap.size, 0, none⟩) bs.length bs.length)).run Tryd.prog (w.alloc (.cells (bs.map (Value.int .u8)).toArray 5)) = .ok (.string (strOfNums bs)) (w.alloc (.cells (bs.map (Value.int .u8)).toArray 5)) := by
  refine run_convert_bytes_arg _ 52 5 Tryd.underlying52 Tryd.underlying5 w.heap.size 0 _ _ bs rfl (fun j hj => ?_) _ Tryd.underlying9
  rw [Nat.zero_add, World.cell?_alloc_new]
  simp [List.getElem?_eq_getElem hj]
set_option maxRecDepth 20000 in
set_option maxHeartbeats 1000000 in
theorem refForm_any (r : Int) (w : World) (hr : 0 < Utf.width r) :
    Calls Tryd.prog 61 #[.int .i32 r] w fun e w' => e = .returned (.string (strOfNums (Utf.form r))) ∧ Below w.heap.size w w' := by
  have hb : (0 ≤ r ∧ r < 128) ∨ (128 ≤ r ∧ r < 2048) ∨ (2048 ≤ r ∧ r < 65536) ∨ (65536 ≤ r ∧ r ≤ 1114111) := by unfold Utf.width at hr; (repeat' split at hr) <;> omega
  clear hr
  rcases hb with ⟨h0, h1⟩ | ⟨h0, h1⟩ | ⟨h0, h1⟩ | ⟨h0, h1⟩
  · have HF : Hid (Utf.form r = [r]) := if_pos h1
    have hc := conv_newR w [r]
    simp only [List.map_cons, List.map_nil, List.length_cons, List.length_nil, Nat.zero_add] at hc
    go_enter Tryd.func61, Tryd.ntmps61
    go_wp2
    go_ret
    rw [HF.out]
    exact ⟨rfl, (Below.refl _ _).alloc (Nat.le_refl _) _⟩
  · have HF : Hid (Utf.form r = [192 + r / 64, 128 + r % 64]) := (if_neg (by omega)).trans (if_pos h1)
    have hc := conv_newR w [192 + r / 64, 128 + r % 64]
    simp only [List.map_cons, List.map_nil, List.length_cons, List.length_nil, Nat.zero_add, Nat.reduceAdd] at hc
    go_enter Tryd.func61, Tryd.ntmps61
    go_wp2
    go_ret
    rw [HF.out]
    exact ⟨rfl, (Below.refl _ _).alloc (Nat.le_refl _) _⟩
  · have HF : Hid (Utf.form r = [224 + r / 4096, 128 + r / 64 % 64, 128 + r % 64]) := (if_neg (by omega)).trans ((if_neg (by omega)).trans (if_pos h1))
    have hc := conv_newR w [224 + r / 4096, 128 + r / 64 % 64, 128 + r % 64]
    simp only [List.map_cons, List.map_nil, List.length_cons, List.length_nil, Nat.zero_add, Nat.reduceAdd] at hc
    go_enter Tryd.func61, Tryd.ntmps61
    go_wp2
    go_ret
    rw [HF.out]
    exact ⟨rfl, (Below.refl _ _).alloc (Nat.le_refl _) _⟩
  · have HF : Hid (Utf.form r = [240 + r / 262144, 128 + r / 4096 % 64, 128 + r / 64 % 64, 128 + r % 64]) := (if_neg (by omega)).trans ((if_neg (by omega)).trans (if_neg (by omega)))
    have hc := conv_newR w [240 + r / 262144, 128 + r / 4096 % 64, 128 + r / 64 % 64, 128 + r % 64]
    simp only [List.map_cons, List.map_nil, List.length_cons, List.length_nil, Nat.zero_add, Nat.reduceAdd] at hc
    go_enter Tryd.func61, Tryd.ntmps61
    go_wp2
    go_ret
    rw [HF.out]
    exact ⟨rfl, (Below.refl _ _).alloc (Nat.le_refl _) _⟩
theorem strOfNums_append (a b : List Int) : strOfNums a ++ strOfNums b = strOfNums (a ++ b) := by
  apply ByteArray.ext
  simp [strOfNums]
end Go.Proofs.YteflghhpdikidaaDoor

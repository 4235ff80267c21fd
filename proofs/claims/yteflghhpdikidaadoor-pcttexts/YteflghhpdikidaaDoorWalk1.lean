/-
  What is proved here: what the small functions of package utf answer.
-/
import Derived.Test.YteflghhpdikidaaDoorBase
import Derived.Test.YteflghhpdikidaaDoorUtf
namespace Go.Proofs.YteflghhpdikidaaDoor
open Go.RowKit

set_option maxHeartbeats 400000 in
theorem width_any (r : Int) (w : World) :
    Calls Tryd.prog 75 #[.int .i32 r] w fun e w' => e = .returned (.int .i64 (Utf.width r)) ∧ w = w' := by
  go_enter Tryd.func75, Tryd.ntmps75
  go_wp2
  all_goals go_ret
  all_goals refine ⟨ret_int ?_, rfl⟩
  all_goals (unfold Utf.width; (repeat' split) <;> omega)
set_option maxHeartbeats 400000 in
theorem formWidth_any (b : Int) (w : World) :
    Calls Tryd.prog 67 #[.int .u8 b] w fun e w' => e = .returned (.int .i64 (Utf.formWidth b)) ∧ w = w' := by
  go_enter Tryd.func67, Tryd.ntmps67
  go_wp2
  all_goals go_ret
  all_goals refine ⟨ret_int ?_, rfl⟩
  all_goals (unfold Utf.formWidth; (repeat' split) <;> omega)
set_option maxHeartbeats 400000 in
theorem leadBits_any (b n : Int) (w : World) (hb0 : 0 ≤ b) (hb1 : b < 256) :
    Calls Tryd.prog 68 #[.int .u8 b, .int .i64 n] w fun e w' => e = .returned (.int .i32 (Utf.leadBits b n)) ∧ w = w' := by
  go_enter Tryd.func68, Tryd.ntmps68
  go_wp2
  all_goals go_ret
  all_goals refine ⟨ret_int ?_, rfl⟩
  all_goals (simp only [beq_iff_eq, beq_eq_false_iff_ne, ne_eq] at *; unfold Utf.leadBits; (repeat' split) <;> omega)
theorem i32_and63 {x : Int} (h₀ : 0 ≤ x) (h₁ : x < 2147483648) : bits .and .i32 x 63 = x % 64 := bits_mask .i32 31 (by decide) wraps_i32 6 (by decide) x h₀ h₁
theorem i32_or0 {x : Int} (h₀ : 0 ≤ x) (h₁ : x < 2147483648) : bits .or .i32 x 0 = x := by
  have := bits_join .i32 31 (by decide) wraps_i32 0 x 0 h₀ (by omega) (by omega) (by omega) (by omega) (by omega)
  rw [this]; omega
set_option maxHeartbeats 400000 in
theorem leadsToRight_any (r n m : Int) (w : World) (h0 : 0 ≤ r) (hm0 : 0 ≤ m) (hm3 : m ≤ 3) (h1 : r * Utf.pw m < 2097152) :
    Calls Tryd.prog 69 #[.int .i32 r, .int .i64 n, .int .i64 m] w fun e w' => e = .returned (.bool (Utf.ltr r n m)) ∧ w = w' := by
  obtain rfl | rfl | rfl | rfl : m = 0 ∨ m = 1 ∨ m = 2 ∨ m = 3 := by omega
  all_goals (simp [Utf.pw] at h1)
  all_goals go_enter Tryd.func69, Tryd.ntmps69
  all_goals go_wp2_with (go_at_call 75; refine (width_any _ _).mono ?_; rintro e w' ⟨rfl, rfl⟩)
  all_goals go_ret
  all_goals refine ⟨ret_bool ?_, rfl⟩
  all_goals (try rw [i32_or0 h0 (by omega)])
  all_goals simp [Utf.ltr, Utf.pw, *]
end Go.Proofs.YteflghhpdikidaaDoor

/-
  What is proved here: what the small functions of package utf answer, each at every argument (of its Go type, the bounds said where they are used).
-/
import Derived.Test.YtbpjenckkllbaaaDoorProg
import Derived.Test.YtbpjenckkllbaaaDoorUtf
import Derived.WalkKit
import Derived.WalkSpells
import Derived.WalkLawsBesides
namespace Go.Proofs.YtbpjenckkllbaaaDoor
open Go.RowKit

theorem ret_int {k : IntKind} {a b : Int} (h : a = b) : Ending.returned (.int k a) = .returned (.int k b) := by rw [h]
theorem ret_bool {a b : Bool} (h : a = b) : Ending.returned (.bool a) = .returned (.bool b) := by rw [h]

set_option maxHeartbeats 400000 in
theorem width_any (r : Int) (w : World) :
    Calls Tryd.prog 20 #[.int .i32 r] w fun e w' => e = .returned (.int .i64 (Utf.width r)) ∧ w = w' := by
  go_enter Tryd.func20, Tryd.ntmps20
  go_wp2
  all_goals go_ret
  all_goals refine ⟨ret_int ?_, rfl⟩
  all_goals (unfold Utf.width; (repeat' split) <;> omega)

set_option maxHeartbeats 400000 in
theorem right_any (r : Int) (w : World) :
    Calls Tryd.prog 18 #[.int .i32 r] w fun e w' => e = .returned (.bool (decide (0 < Utf.width r))) ∧ w = w' := by
  go_enter Tryd.func18, Tryd.ntmps18
  go_wp2_with (go_at_call 20; refine (width_any _ _).mono ?_; rintro e w' ⟨rfl, rfl⟩)
  all_goals go_ret
  all_goals exact ⟨rfl, rfl⟩

set_option maxHeartbeats 400000 in
theorem formWidth_any (b : Int) (w : World) :
    Calls Tryd.prog 37 #[.int .u8 b] w fun e w' => e = .returned (.int .i64 (Utf.formWidth b)) ∧ w = w' := by
  go_enter Tryd.func37, Tryd.ntmps37
  go_wp2
  all_goals go_ret
  all_goals refine ⟨ret_int ?_, rfl⟩
  all_goals (unfold Utf.formWidth; (repeat' split) <;> omega)

set_option maxHeartbeats 400000 in
theorem leadBits_any (b n : Int) (w : World) (hb0 : 0 ≤ b) (hb1 : b < 256) :
    Calls Tryd.prog 38 #[.int .u8 b, .int .i64 n] w fun e w' => e = .returned (.int .i32 (Utf.leadBits b n)) ∧ w = w' := by
  go_enter Tryd.func38, Tryd.ntmps38
  go_wp2
  all_goals go_ret
  all_goals refine ⟨ret_int ?_, rfl⟩
  all_goals (simp only [beq_iff_eq, beq_eq_false_iff_ne, ne_eq] at *; unfold Utf.leadBits; (repeat' split) <;> omega)

theorem i32_and63 {x : Int} (h₀ : 0 ≤ x) (h₁ : x < 2147483648) : bits .and .i32 x 63 = x % 64 := bits_mask .i32 31 (by decide) wraps_i32 6 (by decide) x h₀ h₁

theorem i32_or0 {x : Int} (h₀ : 0 ≤ x) (h₁ : x < 2147483648) : bits .or .i32 x 0 = x := by
  have := bits_join .i32 31 (by decide) wraps_i32 0 x 0 h₀ (by omega) (by omega) (by omega) (by omega) (by omega)
  rw [this]; omega

set_option maxHeartbeats 400000 in
theorem tailOf_any (r : Int) (w : World) (h0 : 0 ≤ r) (h1 : r ≤ 1114111) :
    Calls Tryd.prog 40 #[.int .i32 r] w fun e w' => e = .returned (.int .u8 (128 + r % 64)) ∧ w = w' := by
  go_enter Tryd.func40, Tryd.ntmps40
  go_wp2
  all_goals go_ret
  all_goals refine ⟨ret_int ?_, rfl⟩
  rw [i32_and63 h0 (by omega)]
  try rw [show r % 64 % 256 = r % 64 by omega]
  exact u8_or128 _ (by omega) (by omega)

set_option maxHeartbeats 400000 in
theorem leadsToRight_any (r n m : Int) (w : World) (h0 : 0 ≤ r) (hm0 : 0 ≤ m) (hm3 : m ≤ 3) (h1 : r * Utf.pw m < 2097152) :
    Calls Tryd.prog 39 #[.int .i32 r, .int .i64 n, .int .i64 m] w fun e w' => e = .returned (.bool (Utf.ltr r n m)) ∧ w = w' := by
  obtain rfl | rfl | rfl | rfl : m = 0 ∨ m = 1 ∨ m = 2 ∨ m = 3 := by omega
  all_goals (simp [Utf.pw] at h1)
  all_goals go_enter Tryd.func39, Tryd.ntmps39
  all_goals go_wp2_with (go_at_call 20; refine (width_any _ _).mono ?_; rintro e w' ⟨rfl, rfl⟩)
  all_goals go_ret
  all_goals refine ⟨ret_bool ?_, rfl⟩
  all_goals (try rw [i32_or0 h0 (by omega)])
  all_goals simp [Utf.ltr, Utf.pw, *]
end Go.Proofs.YtbpjenckkllbaaaDoor

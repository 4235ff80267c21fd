/-
  What is proved here: that 16 is a power of two, with four noughts behind (math/bits), for strconv.FormatInt in base 16.
-/
import Derived.Test.YtlnehhfljjeifaaGreatDoorD2
namespace Go.Proofs.YtlnehhfljjeifaaGreatDoor
open Go.RowKit

theorem pow2_16 (w : World) : Calls Tryz.prog 154 #[.int .i64 16] w fun e w' => e = .returned (.bool true) ∧ w = w' := by
  go_enter Tryz.func154, Tryz.ntmps154
  go_wp2
  go_ret
  exact ⟨rfl, rfl⟩
theorem tz64_16 (w : World) (h : w.cell? ⟨26, 15, none⟩ = some (.int .u8 4)) : Calls Tryz.prog 173 #[.int .u64 16] w fun e w' => e = .returned (.int .i64 4) ∧ w = w' := by
  have e1 : IntKind.u64.wrap (-16) = 18446744073709551600 := by decide
  have e2 : bits BinOp.and IntKind.u64 16 18446744073709551600 = 16 := by decide +kernel
  have e3 : IntKind.u64.wrap (16 * 285870213051353865) = 4573923408821661840 := by decide
  have e4 : (4573923408821661840 : Int) / 288230376151711744 = 15 := by decide
  go_enter Tryz.func173, Tryz.ntmps173
  go_wp2
  go_ret
  exact ⟨rfl, rfl⟩
theorem tz_16 (w : World) (h : w.cell? ⟨26, 15, none⟩ = some (.int .u8 4)) : Calls Tryz.prog 155 #[.int .u64 16] w fun e w' => e = .returned (.int .i64 4) ∧ w = w' := by
  have H := Hid.mk' (tz64_16 w h)
  clear h
  go_enter Tryz.func155, Tryz.ntmps155
  go_wp2_with (go_at_call 173; refine H.out.mono ?_; rintro e w1 ⟨rfl, rfl⟩)
  go_ret
  exact ⟨rfl, rfl⟩
end Go.Proofs.YtlnehhfljjeifaaGreatDoor

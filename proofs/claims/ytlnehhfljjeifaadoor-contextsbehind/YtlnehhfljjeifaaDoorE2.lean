/-
  What is proved here: what the reference's Composes answers, and what Composes answers of a number that no row has.
-/
import Derived.Test.YtlnehhfljjeifaaDoorE1
namespace Go.Proofs.YtlnehhfljjeifaaDoor
open Go.RowKit

set_option maxHeartbeats 1000000 in
theorem composes_out (vr vc ve : Value) (l : List Rw) (x : Int) (w : World) (hR : Rows4 w vr l) (_hl : l.length ≤ 2147483648) (hx : x < 0 ∨ (l.length : Int) ≤ x) :
    Calls Tryd.prog 43 #[.agg #[vr, vc, ve], .int .i64 x] w fun e w' => e = .returned (.bool false) ∧ Below w.heap.size w w' := by
  obtain ⟨W0, hW0, hsz, hb0, e0, e1, e2⟩ := norm_box w vr vc ve
  obtain ⟨a, cap, rfl, -⟩ := hR
  have hx' : decide (x < 0) = true ∨ (decide (x < 0) = false ∧ decide ((l.length : Int) ≤ x) = true) := by
    by_cases h : x < 0
    · left; simpa using h
    · right; simp; omega
  clear hx
  rcases hx' with h | ⟨h, h'⟩
  all_goals
    go_enter Tryd.func43, Tryd.ntmps43
    go_wp2
    go_ret
    exact ⟨rfl, hb0⟩
end Go.Proofs.YtlnehhfljjeifaaDoor

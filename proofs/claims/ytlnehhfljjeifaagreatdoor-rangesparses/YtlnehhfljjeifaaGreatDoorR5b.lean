/-
  What is proved here: what Count answers; what the reference's Find answers.
-/
import Derived.Test.YtlnehhfljjeifaaGreatDoorR5
namespace Go.Proofs.YtlnehhfljjeifaaGreatDoor
open Go.RowKit

/-- how many runes the first n have -/
def sumTo (l : List Rg) : Nat → Int
  | 0 => 0
  | n + 1 => sumTo l n + ((l.getD n default).hi - (l.getD n default).lo + 1)
theorem sumTo_bound (l : List Rg) (hm : Mays l) : ∀ n, n ≤ l.length → 0 ≤ sumTo l n ∧ sumTo l n ≤ n * 1114112 := by
  intro n
  induction n with
  | zero => intro _; simp [sumTo]
  | succ n ih =>
    intro hn
    have h1 := ih (by omega)
    have h2 := ((l.getD n default).may_iff).1 (hm n (by omega))
    unfold sumTo
    omega
set_option maxHeartbeats 1000000 in
theorem refFind_any (v : Value) (l : List Rg) (r : Int) (w : World) (hT : Tab w v l) (hl : l.length ≤ 2147483648) :
    Calls Tryz.prog 138 #[v, .int .i32 r] w fun e w' => e = .returned (foundV (find l r)) ∧ w = w' := by
  obtain ⟨a, cap, rfl, hT⟩ := hT
  have HT := Hid.mk' hT
  clear hT
  go_enter Tryz.func138, Tryz.ntmps138
  go_wp2
  go_loop [6] (fun x => ∃ k : Nat, x = .int .i64 k ∧ k ≤ l.length ∧ Hid (∀ i, i < k → ¬ ((l.getD i default).lo ≤ r ∧ r ≤ (l.getD i default).hi))) (fun y => l.length - (intOf y).toNat)
  case atStart => exact ⟨0, rfl, Nat.zero_le _, fun i hi => by omega⟩
  case round =>
    obtain ⟨k, rfl, hk, h0⟩ := hrel
    by_cases hlt : k < l.length
    · obtain ⟨b, off, rfl, hc⟩ := HT.out k hlt
      obtain ⟨d0, d1, d2⟩ := three_of (w := w) (b := b) (o := off + k * 3) (r := l.getD k default) hc
      clear hc
      have HN : Hid (¬ ((l.getD k default).lo ≤ r ∧ r ≤ (l.getD k default).hi) → ∀ i, i < k + 1 → ¬ ((l.getD i default).lo ≤ r ∧ r ≤ (l.getD i default).hi)) := fun hn i hi => by
        rcases Nat.lt_or_ge i k with g | g
        · exact h0.out i g
        · obtain rfl : i = k := by omega
          exact hn
      have HF : Hid ((l.getD k default).lo ≤ r ∧ r ≤ (l.getD k default).hi → find l r = some (l.getD k default).val) := fun h => find_some l r k hlt h.1 h.2 h0.out
      generalize l.getD k default = q at d0 d1 d2 HN HF
      by_cases h1 : q.lo ≤ r
      · by_cases h2 : r ≤ q.hi
        · go_wp2
          go_ret2
          exact ⟨by rw [HF.out ⟨h1, h2⟩]; rfl, rfl⟩
        · have hn : Hid _ := HN.out (fun h => h2 h.2)
          go_wp2
          go_round
          case rel => exact ⟨k + 1, by go_num, by omega, hn⟩
          case measure => simp [intOf]; omega
      · have hn : Hid _ := HN.out (fun h => h1 h.1)
        go_wp2
        go_round
        case rel => exact ⟨k + 1, by go_num, by omega, hn⟩
        case measure => simp [intOf]; omega
    · obtain rfl : k = l.length := by omega
      go_wp2
      go_ret2
      exact ⟨by rw [(find_none l r).2 h0.out]; rfl, rfl⟩
end Go.Proofs.YtlnehhfljjeifaaGreatDoor

/-
  What is proved here: what the document's least answers; runes and numbers in order.
-/
import Derived.Test.YtockmkcoehepiaaDoorZE
import Derived.BigQuiet
import Derived.Deep.QuietTactic
namespace Go.Proofs.YtockmkcoehepiaaDoor
open Go.RowKit

/-- the least rune above one among the first k, or -1 -/
def leastK (l : List Int) (above : Int) : Nat → Int
  | 0 => -1
  | k + 1 => if above < l.getD k 0 ∧ (leastK l above k < 0 ∨ l.getD k 0 < leastK l above k) then l.getD k 0 else leastK l above k
def leastM (l : List Int) (above : Int) : Int := leastK l above l.length
/-- where runes are above -1 -/
theorem leastK_spec (l : List Int) (above : Int) (ha : -1 ≤ above) : ∀ k, k ≤ l.length → (leastK l above k = -1 ∧ ∀ j, j < k → ¬ above < l.getD j 0) ∨ (above < leastK l above k ∧ (∃ j, j < k ∧ l.getD j 0 = leastK l above k) ∧ ∀ j, j < k → above < l.getD j 0 → leastK l above k ≤ l.getD j 0) := by
  intro k
  induction k with
  | zero => intro _; exact .inl ⟨rfl, fun j hj => by omega⟩
  | succ k ih =>
    intro hk
    have hi := ih (by omega)
    unfold leastK
    generalize leastK l above k = b at *
    by_cases hc : above < l.getD k 0 ∧ (b < 0 ∨ l.getD k 0 < b)
    · rw [if_pos hc]
      refine .inr ⟨hc.1, ⟨k, by omega, rfl⟩, fun j hj hj' => ?_⟩
      rcases Nat.lt_or_ge j k with q | q
      · rcases hi with ⟨e, hn⟩ | ⟨e, -, hn⟩
        · exact absurd hj' (hn j q)
        · have := hn j q hj'
          omega
      · obtain rfl : j = k := by omega
        exact Int.le_refl _
    · rw [if_neg hc]
      rcases hi with ⟨e, hn⟩ | ⟨e, ⟨j0, h0, e0⟩, hn⟩
      · refine .inl ⟨e, fun j hj => ?_⟩
        rcases Nat.lt_or_ge j k with q | q
        · exact hn j q
        · obtain rfl : j = k := by omega
          omega
      · refine .inr ⟨e, ⟨j0, by omega, e0⟩, fun j hj hj' => ?_⟩
        rcases Nat.lt_or_ge j k with q | q
        · exact hn j q hj'
        · obtain rfl : j = k := by omega
          omega
set_option maxRecDepth 20000 in
set_option maxHeartbeats 1000000 in
theorem least_any (a : Option Addr) (cap : Nat) (l : List Int) (above : Int) (w : World) (h : RunesC w a cap l) (hl : l.length ≤ 200) :
    Calls Tryd.prog 56 #[.slice a l.length cap, .int .i32 above] w fun e w' => e = .returned (.int .i32 (leastM l above)) ∧ w = w' := by
  have HC := Hid.mk' h.2
  have HM : Hid (leastM l above = leastK l above l.length) := rfl
  have H0 : Hid (leastK l above 0 = -1) := rfl
  have HNX : Hid (∀ k, leastK l above (k + 1) = if above < l.getD k 0 ∧ (leastK l above k < 0 ∨ l.getD k 0 < leastK l above k) then l.getD k 0 else leastK l above k) := fun k => rfl
  generalize leastM l above = R at *
  generalize leastK l above = L at *
  clear h
  go_enter Tryd.func56, Tryd.ntmps56
  go_wp2
  go_loop [5, 6] (fun x y => ∃ k : Nat, k ≤ l.length ∧ y = .int .i64 k ∧ x = .int .i32 (L k)) (fun _ y => l.length - (intOf y).toNat)
  case atStart => exact ⟨0, Nat.zero_le _, rfl, by rw [H0.out]⟩
  case round =>
    obtain ⟨k, hk, rfl, rfl⟩ := hrel
    by_cases hlt : k < l.length
    · obtain ⟨b, off, rfl, ck⟩ := HC.out k hlt
      have hnx := Hid.mk' (HNX.out k)
      generalize hLn : L (k + 1) = Ln at hnx
      have HLn := Hid.mk' hLn
      clear hLn
      generalize l.getD k 0 = x at *
      generalize L k = y at *
      have hklz : (k : Int) < (l.length : Int) := by omega
      by_cases h1 : above < x
      · by_cases h2 : y < 0
        · rw [if_pos ⟨h1, .inl h2⟩] at hnx
          go_wp2
          go_round
          case rel => exact ⟨k + 1, by omega, by go_num, by rw [HLn.out, hnx.out]⟩
          case measure => simp [intOf]; omega
        · have h2d : decide (y < 0) = false := decide_eq_false h2
          by_cases h3 : x < y
          · rw [if_pos ⟨h1, .inr h3⟩] at hnx
            go_wp2
            go_round
            case rel => exact ⟨k + 1, by omega, by go_num, by rw [HLn.out, hnx.out]⟩
            case measure => simp [intOf]; omega
          · rw [if_neg (by omega)] at hnx
            have h3d : decide (x < y) = false := decide_eq_false h3
            go_wp2
            go_round
            case rel => exact ⟨k + 1, by omega, by go_num, by rw [HLn.out, hnx.out]⟩
            case measure => simp [intOf]; omega
      · rw [if_neg (by omega)] at hnx
        have h1d : decide (above < x) = false := decide_eq_false h1
        go_wp2
        go_round
        case rel => exact ⟨k + 1, by omega, by go_num, by rw [HLn.out, hnx.out]⟩
        case measure => simp [intOf]; omega
    · obtain rfl : k = l.length := by omega
      go_wp2
      go_ret
      exact ⟨ret_int (by rw [HM.out]), rfl⟩
end Go.Proofs.YtockmkcoehepiaaDoor

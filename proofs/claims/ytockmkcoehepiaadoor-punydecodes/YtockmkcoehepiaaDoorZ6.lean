/-
  What is proved here: what puny's ahead answers; the function by which puny's order sorts.
-/
import Derived.Test.YtockmkcoehepiaaDoorZ5
namespace Go.Proofs.YtockmkcoehepiaaDoor
open Go.RowKit

/-- a slice value that holds runes, and has room for them -/
def RunesC (w : World) (a : Option Addr) (cap : Nat) (l : List Int) : Prop := l.length ≤ cap ∧ ∀ j, j < l.length → ∃ b off, a = some ⟨b, off, none⟩ ∧ w.cell? ⟨b, off + j, none⟩ = some (.int .i32 (l.getD j 0))
theorem RunesC.runes {w : World} {a : Option Addr} {cap : Nat} {l : List Int} (h : RunesC w a cap l) : Runes w (.slice a l.length cap) l := ⟨a, cap, rfl, h.2⟩
theorem RunesC.below {w w' : World} {a : Option Addr} {cap : Nat} {l : List Int} (h : RunesC w a cap l) (hb : Below w.heap.size w w') : RunesC w' a cap l := by
  refine ⟨h.1, fun j hj => ?_⟩
  obtain ⟨b, off, rfl, hc⟩ := h.2 j hj
  exact ⟨b, off, rfl, (hb.cell (p := ⟨b, off + j, none⟩) (lt_of_cell hc)).trans hc⟩
/-- how many of the first ones aren't above -/
def cntM (l : List Int) (r : Int) (k : Nat) : Nat := (l.take k).countP (fun x => decide (x ≤ r))
theorem cnt_le (l : List Int) (r : Int) (k : Nat) : cntM l r k ≤ k := Nat.le_trans List.countP_le_length (List.length_take_le _ _)
theorem cnt_next {l : List Int} (r : Int) {k : Nat} (h : k < l.length) : cntM l r (k + 1) = cntM l r k + if l.getD k 0 ≤ r then 1 else 0 := by
  unfold cntM
  have e : l.take (k + 1) = l.take k ++ [l.getD k 0] := by rw [List.take_succ_eq_append_getElem h]; simp [List.getD, h]
  rw [e, List.countP_append]
  simp only [List.countP_singleton, decide_eq_true_eq]
set_option maxRecDepth 20000 in
set_option maxHeartbeats 1000000 in
theorem ahead_any (a : Option Addr) (cap : Nat) (l : List Int) (n : Nat) (w : World) (h : RunesC w a cap l) (hl : l.length ≤ 120) (hn : n < l.length) :
    Calls Tryd.prog 55 #[.slice a l.length cap, .int .i64 n] w fun e w' => e = .returned (.int .i64 (aheadM l n)) ∧ w = w' := by
  obtain ⟨hcap, hc⟩ := h
  obtain ⟨b, off, rfl, cn⟩ := hc n hn
  have HC : Hid (∀ j, j < l.length → w.cell? ⟨b, off + j, none⟩ = some (.int .i32 (l.getD j 0))) := fun j hj => by
    obtain ⟨b', off', e, h⟩ := hc j hj
    obtain ⟨rfl, rfl⟩ : b = b' ∧ off = off' := by simpa using e
    exact h
  have HA : Hid (aheadM l n = cntM l (l.getD n 0) n) := rfl
  have HNX : Hid (∀ k, k < n → cntM l (l.getD n 0) (k + 1) = cntM l (l.getD n 0) k + if l.getD k 0 ≤ l.getD n 0 then 1 else 0) := fun k hk => cnt_next _ (by omega)
  have HLE : Hid (∀ k, cntM l (l.getD n 0) k ≤ k) := fun k => cnt_le _ _ _
  have H0 : Hid (cntM l (l.getD n 0) 0 = 0) := rfl
  generalize aheadM l n = R at *
  generalize l.getD n 0 = r at *
  generalize hcn : cntM l r = c at *
  clear hc hcn
  have hnc : (n : Int) ≤ (cap : Int) := by omega
  have hn0 : (0 : Int) ≤ (n : Int) := by omega
  go_enter Tryd.func55, Tryd.ntmps55
  go_wp2
  go_loop [5, 12] (fun x y => ∃ k : Nat, k ≤ n ∧ y = .int .i64 k ∧ x = .int .i64 (c k)) (fun _ y => n - (intOf y).toNat)
  case atStart => exact ⟨0, Nat.zero_le _, rfl, by rw [H0.out]; rfl⟩
  case round =>
    obtain ⟨k, hk, rfl, rfl⟩ := hrel
    have hcb := HLE.out k
    by_cases hlt : k < n
    · have ck := HC.out k (by omega)
      have hnx := Hid.mk' (HNX.out k hlt)
      generalize l.getD k 0 = x at *
      have hkz : (k : Int) < (n : Int) := by omega
      by_cases hx : x ≤ r
      · rw [if_pos hx] at hnx
        go_wp2
        go_round
        case rel => exact ⟨k + 1, by omega, by go_num, by rw [hnx.out]; go_num⟩
        case measure => simp [intOf]; omega
      · rw [if_neg hx] at hnx
        have hxd : decide (x ≤ r) = false := by simpa using hx
        go_wp2
        go_round
        case rel => exact ⟨k + 1, by omega, by go_num, by rw [hnx.out]; rfl⟩
        case measure => simp [intOf]; omega
    · obtain rfl : k = n := by omega
      go_wp2
      go_ret
      exact ⟨ret_int (by rw [HA.out]), rfl⟩
set_option maxHeartbeats 400000 in
theorem isNaN_any (x : Int) (w : World) : Calls Tryd.prog 130 #[.int .i32 x] w fun e w' => e = .returned (.bool false) ∧ w = w' := by
  go_enter Tryd.func130, Tryd.ntmps130
  go_wp2
  go_ret
  exact ⟨ret_bool (by simp), rfl⟩
/-- what cmp.Compare answers -/
def cmpZ (x y : Int) : Int := if x < y then -1 else if y < x then 1 else 0
theorem cmpZ_lt (x y : Int) : decide (cmpZ x y < 0) = decide (x < y) := by
  unfold cmpZ
  rw [decide_eq_decide]
  (repeat' split) <;> omega
set_option maxHeartbeats 400000 in
theorem compare_any (x y : Int) (w : World) : Calls Tryd.prog 101 #[.int .i32 x, .int .i32 y] w fun e w' => e = .returned (.int .i64 (cmpZ x y)) ∧ w = w' := by
  have H : Hid (∀ z W, _) := fun z W => isNaN_any z W
  have hc : (x < y ∧ cmpZ x y = -1) ∨ (y < x ∧ cmpZ x y = 1) ∨ (x = y ∧ cmpZ x y = 0) := by
    unfold cmpZ
    rcases Int.lt_trichotomy x y with h | h | h
    · left; exact ⟨h, if_pos h⟩
    · right; right; subst h; exact ⟨rfl, by simp⟩
    · right; left; exact ⟨h, by rw [if_neg (by omega), if_pos h]⟩
  generalize cmpZ x y = z at *
  rcases hc with ⟨h, rfl⟩ | ⟨h, rfl⟩ | ⟨rfl, rfl⟩
  all_goals
    go_enter Tryd.func101, Tryd.ntmps101
    go_wp2_with fail
    refine (H.out _ _).mono ?_
    rintro e w1 ⟨rfl, rfl⟩
    go_wp2_with fail
    refine (H.out _ _).mono ?_
    rintro e w1 ⟨rfl, rfl⟩
    go_wp2
    go_ret
    exact ⟨rfl, rfl⟩
set_option maxRecDepth 20000 in
set_option maxHeartbeats 1000000 in
theorem orderF_any (B : Nat) (a : Option Addr) (cap : Nat) (l : List Int) (x y : Int) (w : World) (c0 : w.cell? ⟨B, 0, none⟩ = some (.slice a l.length cap)) (h : RunesC w a cap l) (hx0 : 0 ≤ x) (hx1 : x < l.length) (hy0 : 0 ≤ y) (hy1 : y < l.length) :
    Calls Tryd.prog 100 #[.int .i64 x, .int .i64 y, .pointer (some ⟨B, 0, none⟩)] w fun e w' => e = .returned (.int .i64 (cmpZ (rn l x) (rn l y))) ∧ ∃ q, w' = w.drewN q := by
  obtain ⟨i, rfl⟩ : ∃ i : Nat, x = i := ⟨x.toNat, by omega⟩
  obtain ⟨j, rfl⟩ : ∃ j : Nat, y = j := ⟨y.toNat, by omega⟩
  obtain ⟨b, off, rfl, ci⟩ := h.2 i (by omega)
  obtain ⟨b', off', e, cj⟩ := h.2 j (by omega)
  obtain ⟨rfl, rfl⟩ : b = b' ∧ off = off' := by simpa using e
  have ei : rn l (i : Int) = l.getD i 0 := by unfold rn; rw [Int.toNat_natCast]
  have ej : rn l (j : Int) = l.getD j 0 := by unfold rn; rw [Int.toNat_natCast]
  rw [ei, ej]
  have HCM : Hid (∀ a b W, _) := fun a b W => compare_any a b W
  generalize l.getD i 0 = u at *
  generalize l.getD j 0 = v at *
  clear ei ej e h
  go_enter Tryd.func100, Tryd.ntmps100
  go_wp2
  go_quiet ((go_at_call 101; exact Calls.quiet_of_same ((HCM.out _ _ _).mono (fun _ _ h => ⟨h.1, h.2.symm⟩))))
  go_wp2
  go_ret
  exact ⟨rfl, _, rfl⟩
end Go.Proofs.YtockmkcoehepiaaDoor

/-
  What is proved here: what package puny's functions on numbers answer (among, Bias, digit, valueOf), and the document's.
-/
import Derived.Test.YtockmkcoehepiaaDoorBase
import Derived.Test.YtockmkcoehepiaaDoorY2
import Derived.WalkKit
import Derived.WalkSpells
import Derived.WalkLawsBesides
namespace Go.Proofs.YtockmkcoehepiaaDoor
open Go.RowKit

set_option maxHeartbeats 400000 in
theorem among_any (n lo hi : Int) (w : World) :
    Calls Tryd.prog 63 #[.int .i64 n, .int .i64 lo, .int .i64 hi] w fun e w' => e = .returned (.int .i64 (amongM n lo hi)) ∧ w = w' := by
  go_enter Tryd.func63, Tryd.ntmps63
  go_wp2
  all_goals go_ret
  all_goals refine ⟨ret_int ?_, rfl⟩
  all_goals (unfold amongM; omega)
set_option maxHeartbeats 400000 in
theorem within_any (n lo hi : Int) (w : World) (h : lo ≤ hi) :
    Calls Tryd.prog 64 #[.int .i64 n, .int .i64 lo, .int .i64 hi] w fun e w' => e = .returned (.int .i64 (amongM n lo hi)) ∧ w = w' := by
  go_enter Tryd.func64, Tryd.ntmps64
  go_wp2
  all_goals go_ret
  all_goals refine ⟨ret_int ?_, rfl⟩
  all_goals (unfold amongM; omega)
/-- what is brought among its bounds -/
def numC (d : Int) : Int := amongM d 0 2147483647
def manyC (d : Int) : Int := amongM d 1 2147483647
def biasC (d : Int) : Int := amongM d 0 1000
theorem numC_bd (d : Int) : 0 ≤ numC d ∧ numC d ≤ 2147483647 := among_bd _ _ _ (by omega)
theorem manyC_bd (d : Int) : 1 ≤ manyC d ∧ manyC d ≤ 2147483647 := among_bd _ _ _ (by omega)
theorem biasC_bd (d : Int) : 0 ≤ biasC d ∧ biasC d ≤ 1000 := among_bd _ _ _ (by omega)
theorem numC_in {d : Int} (h0 : 0 ≤ d) (h1 : d ≤ 2147483647) : numC d = d := within_mid h0 h1
theorem manyC_in {d : Int} (h0 : 1 ≤ d) (h1 : d ≤ 2147483647) : manyC d = d := within_mid h0 h1
theorem biasC_in {d : Int} (h0 : 0 ≤ d) (h1 : d ≤ 1000) : biasC d = d := within_mid h0 h1
theorem quo_bd {d : Int} (h0 : 0 ≤ d) (h1 : d ≤ 2147483647) : 0 ≤ d / 35 ∧ d / 35 ≤ d ∧ d / 35 ≤ 2147483647 := by omega
theorem last_bd {d : Int} (h0 : 0 ≤ d) : 0 ≤ 36 * d / (d + 38) ∧ 36 * d / (d + 38) ≤ 36 := by
  have e1 : 0 ≤ 36 * d / (d + 38) := Int.ediv_nonneg (by omega) (by omega)
  have e2 : 36 * d / (d + 38) < 36 + 1 := Int.ediv_lt_of_lt_mul (by omega) (by omega)
  omega
/-- what is left of the bias behind a number, when it is damped -/
theorem damp_parts {x y : Int} (first : Bool) (h0 : 0 ≤ x) (h1 : x ≤ 2147483647) (hy : 1 ≤ y) (q : Int) (hq : q = x / (if first then 700 else 2)) : 0 ≤ q ∧ q ≤ 1073741823 ∧ 0 ≤ q / y ∧ q / y ≤ q ∧ biasR (q + q / y).toNat (q + q / y) 0 = biasM x y first := by
  subst hq
  have e0 : 0 ≤ x / (if first then 700 else 2) ∧ x / (if first then 700 else 2) ≤ 1073741823 := by cases first <;> simp <;> omega
  exact ⟨e0.1, e0.2, Int.ediv_nonneg e0.1 (by omega), Int.ediv_le_self _ e0.1, rfl⟩
set_option maxHeartbeats 1000000 in
theorem bias_any (d many : Int) (first : Bool) (w : World) :
    Calls Tryd.prog 29 #[.int .i64 d, .int .i64 many, .bool first] w fun e w' => e = .returned (.int .i64 (biasM (numC d) (manyC many) first)) ∧ w = w' := by
  have HA1 := Hid.mk' (among_any d 0 2147483647 w)
  have HA2 := Hid.mk' (among_any many 1 2147483647 w)
  have hd := numC_bd d
  have hm := manyC_bd many
  rw [show amongM d 0 2147483647 = numC d from rfl] at HA1
  rw [show amongM many 1 2147483647 = manyC many from rfl] at HA2
  generalize numC d = x at *
  generalize manyC many = y at *
  have HP := Hid.mk' (damp_parts first hd.1 hd.2 hm.1 _ rfl)
  generalize biasM x y first = R at *
  obtain ⟨hd0, hd1⟩ := hd
  obtain ⟨hm0, hm1⟩ := hm
  cases first
  all_goals
    obtain ⟨p1, p2, p3, p4, p5⟩ := HP.out
    have HQ := Hid.mk' p5
    clear p5 HP
    simp only [if_true, Bool.false_eq_true, if_false] at p1 p2 p3 p4 HQ
    go_enter Tryd.func29, Tryd.ntmps29
    go_wp2_with fail
    refine HA1.out.mono ?_
    rintro e w1 ⟨rfl, rfl⟩
    go_wp2_with fail
    refine HA2.out.mono ?_
    rintro e w1 ⟨rfl, rfl⟩
    go_wp2
    go_loop [0, 7] (fun a b => ∃ (f : Nat) (u k : Int), a = .int .i64 u ∧ b = .int .i64 k ∧ 0 ≤ u ∧ u ≤ 2147483647 ∧ 0 ≤ k ∧ k + u ≤ 2147483647 ∧ Hid (u.toNat ≤ f) ∧ Hid (biasR f u k = R)) (fun a _ => (intOf a).toNat)
    case atStart => exact ⟨_, _, 0, rfl, rfl, by omega, by omega, by omega, by omega, Nat.le_refl _, HQ.out⟩
    case round =>
      obtain ⟨f, u, k, rfl, rfl, hu0, hu1, hk0, hk1, HF, HR⟩ := hrel
      have hl := last_bd hu0
      by_cases hlt : 455 < u
      · have HN : Hid (∃ f', (u / 35).toNat ≤ f' ∧ biasR f' (u / 35) (k + 36) = R) := by
          obtain ⟨f', rfl, e, hf'⟩ := biasR_go f u k hlt HF.out
          exact ⟨f', hf', by rw [← e]; exact HR.out⟩
        clear hl HR HF
        go_wp2
        go_round
        case rel =>
          obtain ⟨f', h1, h2⟩ := HN.out
          exact ⟨f', u / 35, k + 36, rfl, rfl, by omega, by omega, by omega, by omega, h1, h2⟩
        case measure => simp [intOf]; omega
      · have HE : Hid (k + 36 * u / (u + 38) = R) := by rw [← biasR_stop f u k hlt]; exact HR.out
        obtain ⟨hl0, hl1⟩ := hl
        go_wp2
        go_ret
        exact ⟨ret_int HE.out, rfl⟩
set_option maxHeartbeats 1000000 in
theorem refBias_any (d many : Int) (first : Bool) (w : World) :
    Calls Tryd.prog 30 #[.int .i64 d, .int .i64 many, .bool first] w fun e w' => e = .returned (.int .i64 (biasM (numC d) (manyC many) first)) ∧ w = w' := by
  have HA1 := Hid.mk' (within_any d 0 2147483647 w (by omega))
  have HA2 := Hid.mk' (within_any many 1 2147483647 w (by omega))
  have hd := numC_bd d
  have hm := manyC_bd many
  rw [show amongM d 0 2147483647 = numC d from rfl] at HA1
  rw [show amongM many 1 2147483647 = manyC many from rfl] at HA2
  generalize numC d = x at *
  generalize manyC many = y at *
  have HP := Hid.mk' (damp_parts first hd.1 hd.2 hm.1 _ rfl)
  generalize biasM x y first = R at *
  obtain ⟨hd0, hd1⟩ := hd
  obtain ⟨hm0, hm1⟩ := hm
  cases first
  all_goals
    obtain ⟨p1, p2, p3, p4, p5⟩ := HP.out
    have HQ := Hid.mk' p5
    clear p5 HP
    simp only [if_true, Bool.false_eq_true, if_false] at p1 p2 p3 p4 HQ
    go_enter Tryd.func30, Tryd.ntmps30
    go_wp2_with fail
    refine HA1.out.mono ?_
    rintro e w1 ⟨rfl, rfl⟩
    go_wp2_with fail
    refine HA2.out.mono ?_
    rintro e w1 ⟨rfl, rfl⟩
    go_wp2
    go_loop [0, 8] (fun a b => ∃ (f : Nat) (u k : Int), a = .int .i64 u ∧ b = .int .i64 k ∧ 0 ≤ u ∧ u ≤ 2147483647 ∧ 0 ≤ k ∧ k + u ≤ 2147483647 ∧ Hid (u.toNat ≤ f) ∧ Hid (biasR f u k = R)) (fun a _ => (intOf a).toNat)
    case atStart => exact ⟨_, _, 0, rfl, rfl, by omega, by omega, by omega, by omega, Nat.le_refl _, HQ.out⟩
    case round =>
      obtain ⟨f, u, k, rfl, rfl, hu0, hu1, hk0, hk1, HF, HR⟩ := hrel
      have hl := last_bd hu0
      by_cases hlt : 455 < u
      · have HN : Hid (∃ f', (u / 35).toNat ≤ f' ∧ biasR f' (u / 35) (k + 36) = R) := by
          obtain ⟨f', rfl, e, hf'⟩ := biasR_go f u k hlt HF.out
          exact ⟨f', hf', by rw [← e]; exact HR.out⟩
        clear hl HR HF
        go_wp2
        go_round
        case rel =>
          obtain ⟨f', h1, h2⟩ := HN.out
          exact ⟨f', u / 35, k + 36, rfl, rfl, by omega, by omega, by omega, by omega, h1, h2⟩
        case measure => simp [intOf]; omega
      · have HE : Hid (k + 36 * u / (u + 38) = R) := by rw [← biasR_stop f u k hlt]; exact HR.out
        obtain ⟨hl0, hl1⟩ := hl
        go_wp2
        go_ret
        exact ⟨ret_int HE.out, rfl⟩
set_option maxHeartbeats 400000 in
theorem digit_any (v : Int) (w : World) (h0 : 0 ≤ v) (h1 : v < 36) :
    Calls Tryd.prog 111 #[.int .i64 v] w fun e w' => e = .returned (.int .u8 (sgnM v)) ∧ w = w' := by
  go_enter Tryd.func111, Tryd.ntmps111
  go_wp2
  all_goals go_ret
  all_goals refine ⟨ret_int ?_, rfl⟩
  all_goals (unfold sgnM; split <;> omega)
set_option maxHeartbeats 400000 in
theorem refBound_any (k bias : Int) (w : World) (hk0 : 0 ≤ k) (hk1 : k ≤ 2147483647) (h0 : 0 ≤ bias) (h1 : bias ≤ 1000) :
    Calls Tryd.prog 62 #[.int .i64 k, .int .i64 bias] w fun e w' => e = .returned (.int .i64 (bndM k bias)) ∧ w = w' := by
  go_enter Tryd.func62, Tryd.ntmps62
  go_wp2_with fail
  refine (within_any _ 1 26 w (by omega)).mono ?_
  rintro e w1 ⟨rfl, rfl⟩
  go_wp2
  go_ret
  exact ⟨rfl, rfl⟩
theorem ret_ib {a b : Int} {x y : Bool} (h : a = b) (h' : x = y) : Ending.returned (.tuple #[.int .i64 a, .bool x]) = .returned (.tuple #[.int .i64 b, .bool y]) := by rw [h, h']
def valN (b : Int) : Int := if valM b < 0 then 0 else valM b
def valB (b : Int) : Bool := decide (0 ≤ valM b)
set_option maxHeartbeats 400000 in
theorem valueOf_any (b : Int) (w : World) (h0 : 0 ≤ b) (h1 : b < 256) :
    Calls Tryd.prog 132 #[.int .u8 b] w fun e w' => e = .returned (.tuple #[.int .i64 (valN b), .bool (valB b)]) ∧ w = w' := by
  go_enter Tryd.func132, Tryd.ntmps132
  go_wp2
  all_goals go_ret2
  all_goals refine ⟨ret_ib ?_ ?_, rfl⟩
  all_goals (first | (unfold valN valM; (repeat' split) <;> omega) | (unfold valB valM; rw [Bool.eq_iff_iff]; simp; (repeat' split) <;> omega))
set_option maxHeartbeats 400000 in
theorem refValue_any (b : Int) (w : World) (h0 : 0 ≤ b) (h1 : b < 256) :
    Calls Tryd.prog 61 #[.int .u8 b] w fun e w' => e = .returned (.int .i64 (valM b)) ∧ w = w' := by
  go_enter Tryd.func61, Tryd.ntmps61
  go_wp2
  all_goals go_ret
  all_goals refine ⟨ret_int ?_, rfl⟩
  all_goals (unfold valM; (repeat' split) <;> omega)
set_option maxHeartbeats 400000 in
theorem notPlain_any (r : Int) (w : World) :
    Calls Tryd.prog 58 #[.int .i32 r] w fun e w' => e = .returned (.bool (decide (128 ≤ r))) ∧ w = w' := by
  go_enter Tryd.func58, Tryd.ntmps58
  go_wp2
  go_ret
  exact ⟨rfl, rfl⟩
theorem rgt_eq (r : Int) : rgtB r = decide (0 < (if r < 0 ∨ 1114111 < r then (0 : Int) else if r < 128 then 1 else if r < 2048 then 2 else if 55296 ≤ r ∧ r ≤ 57343 then 0 else if r < 65536 then 3 else 4)) := by
  unfold rgtB
  rw [decide_eq_decide]
  (repeat' split) <;> omega
set_option maxHeartbeats 400000 in
theorem width_any (r : Int) (w : World) :
    Calls Tryd.prog 123 #[.int .i32 r] w fun e w' => e = .returned (.int .i64 (if r < 0 ∨ 1114111 < r then (0 : Int) else if r < 128 then 1 else if r < 2048 then 2 else if 55296 ≤ r ∧ r ≤ 57343 then 0 else if r < 65536 then 3 else 4)) ∧ w = w' := by
  go_enter Tryd.func123, Tryd.ntmps123
  go_wp2
  all_goals go_ret
  all_goals refine ⟨ret_int ?_, rfl⟩
  all_goals ((repeat' split) <;> omega)
set_option maxHeartbeats 400000 in
theorem right_any (r : Int) (w : World) :
    Calls Tryd.prog 89 #[.int .i32 r] w fun e w' => e = .returned (.bool (rgtB r)) ∧ w = w' := by
  rw [rgt_eq]
  have H := Hid.mk' (width_any r w)
  generalize (if r < 0 ∨ 1114111 < r then (0 : Int) else if r < 128 then 1 else if r < 2048 then 2 else if 55296 ≤ r ∧ r ≤ 57343 then 0 else if r < 65536 then 3 else 4) = k at *
  go_enter Tryd.func89, Tryd.ntmps89
  go_wp2_with (go_at_call 123; refine H.out.mono ?_; rintro e w' ⟨rfl, rfl⟩)
  all_goals go_ret
  all_goals exact ⟨rfl, rfl⟩
set_option maxHeartbeats 400000 in
theorem isWrong_any (r : Int) (w : World) :
    Calls Tryd.prog 51 #[.int .i32 r] w fun e w' => e = .returned (.bool (!rgtB r)) ∧ w = w' := by
  have H := Hid.mk' (right_any r w)
  generalize rgtB r = k at *
  go_enter Tryd.func51, Tryd.ntmps51
  go_wp2_with (go_at_call 89; refine H.out.mono ?_; rintro e w' ⟨rfl, rfl⟩)
  all_goals go_ret
  all_goals exact ⟨rfl, rfl⟩
set_option maxHeartbeats 400000 in
theorem refRight_any (r : Int) (w : World) :
    Calls Tryd.prog 38 #[.int .i32 r] w fun e w' => e = .returned (.bool (rgtB r)) ∧ w = w' := by
  go_enter Tryd.func38, Tryd.ntmps38
  go_wp2
  all_goals go_ret
  all_goals refine ⟨ret_bool ?_, rfl⟩
  all_goals (unfold rgtB; rw [Bool.eq_iff_iff]; simp; omega)
end Go.Proofs.YtockmkcoehepiaaDoor

/-
  What is proved here: that DecompSyllables answers true at every number.
-/
import Derived.Test.YtjnbkcdjmhbkcaaDoorB5
namespace Go.Proofs.YtjnbkcdjmhbkcaaDoor
open Go.RowKit

theorem rows_nil (w : World) : Rows4 w (.slice none 0 0) [] := ⟨none, 0, rfl, fun j hj => by simp at hj⟩
set_option maxRecDepth 20000 in
set_option maxHeartbeats 4000000 in
theorem syllables_any (w : World) (p : Nat → Addr) (hg : Gl p w) (n : Int) (_hn : (Lit.int .i64 n).wf = true) :
    Calls Tryd.prog 7 #[.int .i64 n] w fun e w' => e = .returned (.bool true) ∧ Below w.heap.size w w' := by
  have HA := Hid.mk' (awake4_any w p hg)
  rcases (by omega : n < 0 ∨ 11172 ≤ n ∨ (0 ≤ n ∧ n < 11172)) with h | h | ⟨h0, h1⟩
  · clear hg
    go_enter Tryd.func7, Tryd.ntmps7
    go_wp2_with fail
    refine HA.out.mono ?_
    rintro e w1 ⟨rfl, hb1⟩
    go_wp2
    go_ret
    exact ⟨rfl, hb1⟩
  · clear hg
    go_enter Tryd.func7, Tryd.ntmps7
    go_wp2_with fail
    refine HA.out.mono ?_
    rintro e w1 ⟨rfl, hb1⟩
    go_wp2
    go_ret
    exact ⟨rfl, hb1⟩
  · obtain ⟨x, hx⟩ : ∃ x, n / 588 = x := ⟨_, rfl⟩
    obtain ⟨y, hy⟩ : ∃ y, n / 28 % 21 = y := ⟨_, rfl⟩
    obtain ⟨z, hz⟩ : ∃ z, n % 28 = z := ⟨_, rfl⟩
    have hS : sylM (44032 + n) = [4352 + x, 4449 + y] ++ (if z = 0 then [] else [4519 + z]) := by
      unfold sylM
      rw [show 44032 + n - 44032 = n by omega, hz, hy, hx]
    have hO : oneM [] (44032 + n) = sylM (44032 + n) := by unfold oneM isSyl; rw [decide_eq_true (by omega)]; rfl
    have x0 : 0 ≤ x := by omega
    have x1 : x < 19 := by omega
    have y0 : 0 ≤ y := by omega
    have y1 : y < 21 := by omega
    have z0 : 0 ≤ z := by omega
    have z1 : z < 28 := by omega
    have heq : (x * 21 + y) * 28 + z = n := by omega
    have HC : Hid (∀ W, Below w.heap.size w W → Calls Tryd.prog 15 #[.agg #[.slice none 0 0, .slice none 0 0, .slice none 0 0], .int .i32 (44032 + n)] W fun e w' => ∃ v, e = .returned v ∧ Runes w' v ([4352 + x, 4449 + y] ++ (if z = 0 then [] else [4519 + z])) ∧ Below W.heap.size W w') := fun W hb => by
      refine (one_any none 0 (.slice none 0 0) (.slice none 0 0) [] (by decide) (44032 + n) W p (hg.below hb) (rows_nil W) (by decide) (fun i hi => by simp at hi)).mono ?_
      rintro e w' ⟨v, rfl, ho, hb'⟩
      rw [hO, hS] at ho
      exact ⟨v, rfl, Runes.own ho, hb'⟩
    have HEQ := Hid.mk' heq
    clear hg hx hy hz hS hO heq
    by_cases hzz : z = 0
    · rw [if_pos hzz, List.append_nil] at HC
      subst hzz
      go_enter Tryd.func7, Tryd.ntmps7
      go_wp2_with fail
      refine HA.out.mono ?_
      rintro e w1 ⟨rfl, hb1⟩
      go_wp2_with fail
      refine (HC.out w1 hb1).mono ?_
      rintro e w2 ⟨v, rfl, hv, hb2⟩
      obtain ⟨a, cap, rfl, hv⟩ := hv
      obtain ⟨b, off, rfl, c0⟩ := hv 0 (by simp)
      obtain ⟨b', off', e', c1⟩ := hv 1 (by simp)
      obtain ⟨rfl, rfl⟩ : b = b' ∧ off = off' := by simpa using e'
      simp only [List.getD_cons_zero, List.getD_cons_succ, Nat.add_zero, List.length_cons, List.length_nil, Nat.zero_add] at c0 c1 ⊢
      clear hv e'
      go_wp2
      go_region
      go_wp2
      go_ret
      refine ⟨ret_bool ?_, hb1.trans (hb2.drew.mono hb1.size)⟩
      have := HEQ.out
      simp
      omega
    · rw [if_neg hzz] at HC
      go_enter Tryd.func7, Tryd.ntmps7
      go_wp2_with fail
      refine HA.out.mono ?_
      rintro e w1 ⟨rfl, hb1⟩
      go_wp2_with fail
      refine (HC.out w1 hb1).mono ?_
      rintro e w2 ⟨v, rfl, hv, hb2⟩
      obtain ⟨a, cap, rfl, hv⟩ := hv
      obtain ⟨b, off, rfl, c0⟩ := hv 0 (by simp)
      obtain ⟨b', off', e', c1⟩ := hv 1 (by simp)
      obtain ⟨rfl, rfl⟩ : b = b' ∧ off = off' := by simpa using e'
      obtain ⟨b', off', e'', c2⟩ := hv 2 (by simp)
      obtain ⟨rfl, rfl⟩ : b = b' ∧ off = off' := by simpa using e''
      simp only [List.cons_append, List.nil_append, List.getD_cons_zero, List.getD_cons_succ, Nat.add_zero, List.length_cons, List.length_nil, Nat.zero_add] at c0 c1 c2 ⊢
      clear hv e' e''
      go_wp2
      go_region
      go_wp2
      go_ret
      refine ⟨ret_bool ?_, hb1.trans (hb2.drew.mono hb1.size)⟩
      have := HEQ.out
      simp
      omega
end Go.Proofs.YtjnbkcdjmhbkcaaDoor

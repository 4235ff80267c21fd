/-
  What is proved here: what the reference's digits answers at any text.
-/
import Derived.Test.YtjjoedkigjekcaaGreatDoorJ3
namespace Go.Proofs.YtjjoedkigjekcaaGreatDoor
open Go.RowKit

theorem digsN_step {s : List UInt8} {k : Nat} {b : UInt8} (h : s[k]? = some b) (hb : isDig b = true) : digsN s k = digsN s (k + 1) + 1 := by
  unfold digsN
  rw [drop_get h, List.takeWhile_cons, if_pos hb]
  rfl
theorem digsN_stop {s : List UInt8} {k : Nat} {b : UInt8} (h : s[k]? = some b) (hb : isDig b = false) : digsN s k = 0 := by
  unfold digsN
  rw [drop_get h, List.takeWhile_cons, if_neg (by rw [hb]; decide)]
  rfl
theorem digsN_end {s : List UInt8} {k : Nat} (h : s.length ≤ k) : digsN s k = 0 := by
  unfold digsN
  rw [List.drop_eq_nil_of_le h]
  rfl
theorem digsN_le (s : List UInt8) (k : Nat) : digsN s k ≤ s.length - k := by
  unfold digsN
  have := (List.takeWhile_sublist (p := isDig) (l := s.drop k)).length_le
  rw [List.length_drop] at this
  exact this
theorem strL_get (s : List UInt8) (k : Nat) (h : k < (strL s).size) : s[k]? = some (strL s)[k] := by
  have : k < s.length := h
  rw [List.getElem?_eq_getElem this]
  rfl
theorem isDig_iff (b : UInt8) : (isDig b = true ↔ 48 ≤ (b.toNat : Int) ∧ (b.toNat : Int) ≤ 57) := by
  unfold isDig
  rw [Bool.and_eq_true, decide_eq_true_iff, decide_eq_true_iff, UInt8.le_iff_toNat_le, UInt8.le_iff_toNat_le]
  show (48 ≤ b.toNat ∧ b.toNat ≤ 57) ↔ _
  omega
theorem dig_cases (b : UInt8) : ((b.toNat : Int) < 48 ∧ isDig b = false) ∨ (57 < (b.toNat : Int) ∧ isDig b = false) ∨ (48 ≤ (b.toNat : Int) ∧ (b.toNat : Int) ≤ 57 ∧ isDig b = true) := by
  have h := isDig_iff b
  cases e : isDig b with
  | true => have := h.1 e; exact .inr (.inr ⟨this.1, this.2, rfl⟩)
  | false =>
    rcases Int.lt_or_le (b.toNat : Int) 48 with g | g
    · exact .inl ⟨g, rfl⟩
    · rcases Int.lt_or_le 57 (b.toNat : Int) with g2 | g2
      · exact .inr (.inl ⟨g2, rfl⟩)
      · rw [h.2 ⟨g, g2⟩] at e; cases e
set_option maxRecDepth 20000 in
set_option maxHeartbeats 2000000 in
theorem digits_any (s : List UInt8) (a : Nat) (w : World) (hs : s.length ≤ 140737488355328) (ha : a ≤ 140737488355400) :
    Calls Tryz.prog 42 #[.string (strL s), .int .i64 a] w fun e w' => e = .returned (.int .i64 (digsN s a)) ∧ w = w' := by
  have HG := Hid.mk' (strL_get s)
  have hz : (strL s).size = s.length := rfl
  obtain ⟨D, hD⟩ : ∃ D, digsN s a = D := ⟨_, rfl⟩
  have HD := Hid.mk' hD
  rw [hD]
  clear hD
  generalize strL s = S at *
  go_enter Tryz.func42, Tryz.ntmps42
  go_wp2
  go_loop [5] (fun x => ∃ n : Nat, x = .int .i64 n ∧ n ≤ s.length ∧ Hid (D = n + digsN s (a + n))) (fun y => s.length - (intOf y).toNat)
  case atStart => exact ⟨0, rfl, Nat.zero_le _, (by show _ = _; rw [HD.out.symm]; simp)⟩
  case round =>
    obtain ⟨n, rfl, hn, HN⟩ := hrel
    have hw : IntKind.i64.wrap ((a : Int) + n) = (a : Int) + n := wrap_i64 (by omega) (by omega)
    have ht : ((a : Int) + n).toNat = a + n := by omega
    by_cases hlt : a + n < s.length
    · have hlt' : a + n < S.size := by omega
      have hb := HG.out (a + n) hlt'
      rcases dig_cases S[a + n] with ⟨h1, h2⟩ | ⟨h1, h2⟩ | ⟨h1, h3, h2⟩
      · have hD : D = n := by rw [HN.out, digsN_stop hb h2]; rfl
        subst hD
        clear h2 hb HN
        go_wp2
        go_ret
        exact ⟨rfl, rfl⟩
      · have hD : D = n := by rw [HN.out, digsN_stop hb h2]; rfl
        subst hD
        clear h2 hb HN
        go_wp2
        go_ret
        exact ⟨rfl, rfl⟩
      · have HD2 : Hid (D = (n + 1) + digsN s (a + (n + 1))) := by
          show _ = _
          rw [HN.out, digsN_step hb h2, ← Nat.add_assoc a n 1]; omega
        clear h2 hb HN
        go_wp2
        go_round
        case rel => exact ⟨n + 1, by go_num, by omega, HD2⟩
        case measure => simp [intOf]; omega
    · have hD : D = n := by rw [HN.out, digsN_end (by omega)]; rfl
      subst hD
      clear HN
      go_wp2
      go_ret
      exact ⟨rfl, rfl⟩
end Go.Proofs.YtjjoedkigjekcaaGreatDoor

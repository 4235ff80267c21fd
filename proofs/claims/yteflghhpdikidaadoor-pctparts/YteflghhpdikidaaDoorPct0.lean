/-
  What is proved here: plain facts on escapes of bytes (percent signs and two hexadecimal digits). No program is in it.
-/
import Derived.WalkKit
namespace Go.Proofs.YteflghhpdikidaaDoor.Pct

/-- what a hexadecimal digit counts -/
def hex (b : Nat) : Option Nat := if 48 ≤ b ∧ b ≤ 57 then some (b - 48) else if 97 ≤ b ∧ b ≤ 102 then some (b - 87) else if 65 ≤ b ∧ b ≤ 70 then some (b - 55) else none
theorem hex_lt {b x : Nat} (h : hex b = some x) : x < 16 := by unfold hex at h; (repeat' split at h) <;> simp at h <;> omega
/-- the byte of an escape by what stands behind its mark, and 0; or 0 and the error's number -/
def esc : List UInt8 → Nat × Nat
  | a :: b :: _ => match hex a.toNat, hex b.toNat with
    | some x, some y => (16 * x + y, 0)
    | _, _ => (0, 1)
  | _ => (0, 2)
/-- a list behind another, if nothing is wrong -/
def glue (l : List (Nat × UInt8)) (r : List (Nat × UInt8) × Nat × Nat) : List (Nat × UInt8) × Nat × Nat := if r.2.2 = 0 then (l ++ r.1, 0, 0) else ([], r.2.1, r.2.2)
/-- what a text stands for: its bytes with their places; or the place and the number of what is wrong (in so many steps) -/
def unf : Nat → List UInt8 → Nat → List (Nat × UInt8) × Nat × Nat
  | 0, _, _ => ([], 0, 0)
  | _ + 1, [], _ => ([], 0, 0)
  | n + 1, c :: t, k => if c.toNat ≠ 37 then glue [(k, c)] (unf n t (k + 1)) else if (esc t).2 = 0 then glue [(k, UInt8.ofNat (esc t).1)] (unf n (t.drop 2) (k + 3)) else ([], k, (esc t).2)
def un (l : List UInt8) (k : Nat) : List (Nat × UInt8) × Nat × Nat := unf l.length l k
theorem unf_fuel (n : Nat) : ∀ (m : Nat) (l : List UInt8) (k : Nat), l.length ≤ n → l.length ≤ m → unf n l k = unf m l k := by
  induction n with
  | zero =>
    intro m l k h _
    obtain rfl : l = [] := List.eq_nil_of_length_eq_zero (by omega)
    cases m <;> rfl
  | succ n ih =>
    intro m l k h hm
    match l, m with
    | [], m => cases m <;> rfl
    | c :: t, 0 => simp at hm
    | c :: t, m + 1 =>
      simp only [List.length_cons] at h hm
      rw [unf, unf, ih m t (k + 1) (by omega) (by omega), ih m (t.drop 2) (k + 3) (by simp; omega) (by simp; omega)]
theorem un_cons (c : UInt8) (t : List UInt8) (k : Nat) : un (c :: t) k = if c.toNat ≠ 37 then glue [(k, c)] (un t (k + 1)) else if (esc t).2 = 0 then glue [(k, UInt8.ofNat (esc t).1)] (un (t.drop 2) (k + 3)) else ([], k, (esc t).2) := by
  unfold un
  rw [List.length_cons, unf, unf_fuel t.length (t.drop 2).length (t.drop 2) (k + 3) (by simp) (Nat.le_refl _)]

theorem glue_glue (l m : List (Nat × UInt8)) (r) : glue l (glue m r) = glue (l ++ m) r := by
  unfold glue
  by_cases h : r.2.2 = 0
  · simp [h]
  · simp [h]
theorem glue_nil (l : List (Nat × UInt8)) : glue l ([], 0, 0) = (l, 0, 0) := by simp [glue]
theorem glue_bad (l : List (Nat × UInt8)) (k c : Nat) (h : c ≠ 0) : glue l ([], k, c) = ([], k, c) := by simp [glue, h]
theorem un_nil (k : Nat) : un [] k = ([], 0, 0) := rfl
theorem un_shape (l : List UInt8) (k : Nat) : ((un l k).2.2 = 0 → (un l k).2.1 = 0) ∧ ((un l k).2.2 ≠ 0 → (un l k).1 = []) := by
  match l with
  | [] => simp [un_nil]
  | c :: t =>
    rw [un_cons]
    unfold glue
    (repeat' split) <;> simp <;> omega
theorem glue_start (l : List UInt8) : un l 0 = glue [] (un l 0) := by
  obtain ⟨h1, h2⟩ := un_shape l 0
  unfold glue
  by_cases h : (un l 0).2.2 = 0
  · simp [h]; exact Prod.ext rfl (Prod.ext (h1 h) h)
  · simp [h]; exact Prod.ext (h2 h) rfl
theorem un_plain {c : UInt8} (t : List UInt8) (k : Nat) (h : c.toNat ≠ 37) : un (c :: t) k = glue [(k, c)] (un t (k + 1)) := by rw [un_cons, if_pos h]
theorem esc_ok {t : List UInt8} {v : Nat} (he : esc t = (v, 0)) : ∃ a b u x y, t = a :: b :: u ∧ hex a.toNat = some x ∧ hex b.toNat = some y ∧ v = 16 * x + y := by
  match t, he with
  | a :: b :: u, he =>
    rw [esc] at he
    cases ha : hex a.toNat with
    | none => rw [ha] at he; simp at he
    | some x =>
      cases hb : hex b.toNat with
      | none => rw [ha, hb] at he; simp at he
      | some y => rw [ha, hb] at he; simp at he; exact ⟨a, b, u, x, y, rfl, ha, hb, he.symm⟩
  | [], he => simp [esc] at he
  | [_], he => simp [esc] at he
theorem un_ok {c : UInt8} {t : List UInt8} (k v : Nat) (h : c.toNat = 37) (he : esc t = (v, 0)) : un (c :: t) k = glue [(k, UInt8.ofNat v)] (un (t.drop 2) (k + 3)) ∧ v < 256 ∧ 2 ≤ t.length := by
  obtain ⟨a, b, u, x, y, rfl, ha, hb, hv⟩ := esc_ok he
  have := hex_lt ha; have := hex_lt hb
  refine ⟨?_, by omega, by simp⟩
  rw [un_cons, if_neg (by simpa using h), he, if_pos rfl]
theorem un_bad {c : UInt8} {t : List UInt8} (k v e : Nat) (h : c.toNat = 37) (he : esc t = (v, e)) (h0 : e ≠ 0) : un (c :: t) k = ([], k, e) := by
  rw [un_cons, if_neg (by simpa using h), he, if_neg h0]
theorem esc_code (t : List UInt8) : (esc t).2 = 0 ∨ (esc t).2 = 1 ∨ (esc t).2 = 2 := by
  unfold esc; split
  · split <;> simp
  · simp
theorem un_code (n : Nat) : ∀ (l : List UInt8) (k : Nat), l.length ≤ n → (un l k).2.2 = 0 ∨ (un l k).2.2 = 1 ∨ (un l k).2.2 = 2 := by
  induction n with
  | zero => intro l k h; have : l = [] := List.eq_nil_of_length_eq_zero (by omega); subst this; simp [un_nil]
  | succ n ih =>
    intro l k h
    match l with
    | [] => simp [un_nil]
    | c :: t =>
      simp only [List.length_cons] at h
      by_cases hc : c.toNat = 37
      · obtain ⟨v, e, he⟩ : ∃ v e, esc t = (v, e) := ⟨_, _, rfl⟩
        by_cases h0 : e = 0
        · subst h0
          rw [(un_ok k v hc he).1]
          unfold glue; split
          · simp
          · exact ih _ _ (by simp; omega)
        · rw [un_bad k v e hc he h0]
          have := esc_code t; rw [he] at this; exact this
      · rw [un_plain t k hc]
        unfold glue; split
        · simp
        · exact ih _ _ (by omega)
end Go.Proofs.YteflghhpdikidaaDoor.Pct

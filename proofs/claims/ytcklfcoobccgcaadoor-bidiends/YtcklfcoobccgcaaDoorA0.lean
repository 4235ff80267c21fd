/-
  What is proved here: plain mathematics of norms (no program): which rows may be, chains, what a rune is taken apart to, which rows compose, what a norm's first fault is.
-/
import Derived.Test.YtcklfcoobccgcaaDoorR7
namespace Go.Proofs.YtcklfcoobccgcaaDoor

/-- A ROW: a rune, and what it is taken apart to -/
structure Rw where
  fr : Int
  to : List Int
deriving DecidableEq, Inhabited
/-- the row number i -/
def rw_ (l : List Rw) (i : Nat) : Rw := l.getD i default
def rightR (r : Int) : Bool := decide ((0 ≤ r ∧ r ≤ 55295) ∨ (57344 ≤ r ∧ r ≤ 1114111))
/-- the first fault among n -/
def ff (f : Nat → Nat) (n : Nat) : Nat × Nat := match (List.range n).find? (fun i => f i != 0) with
  | some i => (i, f i)
  | none => (0, 0)
theorem ff_at (f : Nat → Nat) (n k : Nat) (hk : k < n) (h0 : ∀ i, i < k → f i = 0) (hc : f k ≠ 0) : ff f n = (k, f k) := by
  have e : (List.range n).find? (fun i => f i != 0) = some k := by
    rw [List.find?_eq_some_iff_getElem]
    refine ⟨by simpa using hc, k, by simpa using hk, by simp, fun j hj => by simp [h0 j hj]⟩
  unfold ff; rw [e]
theorem ff_none (f : Nat → Nat) (n : Nat) (h0 : ∀ i, i < n → f i = 0) : ff f n = (0, 0) := by
  have e : (List.range n).find? (fun i => f i != 0) = none := by
    rw [List.find?_eq_none]
    intro x hx
    simp [h0 x (by simpa using hx)]
  unfold ff; rw [e]
theorem ff_zero (f : Nat → Nat) (n : Nat) (h : (ff f n).2 = 0) : ∀ i, i < n → f i = 0 := by
  intro i hi
  unfold ff at h
  split at h
  · rename_i j e
    have := List.find?_some e
    simp at this h
    exact absurd h this
  · rename_i e
    rw [List.find?_eq_none] at e
    simpa using e i (by simpa using hi)
theorem ff_ne (f : Nat → Nat) (n : Nat) (h : (ff f n).2 ≠ 0) : ∃ k, k < n ∧ (∀ i, i < k → f i = 0) ∧ f k ≠ 0 ∧ ff f n = (k, f k) := by
  unfold ff at h
  split at h
  · rename_i j e
    obtain ⟨h1, k, hk, e1, h2⟩ := List.find?_eq_some_iff_getElem.1 e
    simp at e1 hk h1
    subst e1
    have h0 : ∀ i, i < k → f i = 0 := fun i hi => by have := h2 i hi; simpa using this
    exact ⟨k, hk, h0, h1, ff_at f n k hk h0 h1⟩
  · simp at h
def orE (a b : Nat × Nat) : Nat × Nat := if a.2 = 0 then b else a
theorem orE_zero {a b : Nat × Nat} (h : (orE a b).2 = 0) : a.2 = 0 ∧ b.2 = 0 := by
  unfold orE at h; split at h <;> simp_all
theorem orE_l {a b : Nat × Nat} (h : a.2 ≠ 0) : orE a b = a := by unfold orE; rw [if_neg h]
theorem orE_r {a b : Nat × Nat} (h : a.2 = 0) : orE a b = b := by unfold orE; rw [if_pos h]
end Go.Proofs.YtcklfcoobccgcaaDoor

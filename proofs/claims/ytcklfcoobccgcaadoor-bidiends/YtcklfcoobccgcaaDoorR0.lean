/-
  What is proved here: plain mathematics of ranges of runes (no program): which may be, which are at fault and why, what a list's first fault is.
-/
import Derived.Test.YtcklfcoobccgcaaDoorProg
namespace Go.Proofs.YtcklfcoobccgcaaDoor

/-- A RANGE: its least rune, its greatest, its value -/
structure Rg where
  lo : Int
  hi : Int
  val : Int
deriving DecidableEq, Inhabited
namespace Rg
def may (r : Rg) : Bool := decide (0 ≤ r.lo) && decide (r.lo ≤ r.hi) && decide (r.hi ≤ 1114111) && decide (0 ≤ r.val) && decide (r.val ≤ 999999)
/-- the numbers fit their kinds -/
def wf (r : Rg) : Prop := (-2147483648 ≤ r.lo ∧ r.lo ≤ 2147483647) ∧ (-2147483648 ≤ r.hi ∧ r.hi ≤ 2147483647) ∧ -9223372036854775808 ≤ r.val ∧ r.val ≤ 9223372036854775807
theorem may_iff (r : Rg) : r.may = true ↔ 0 ≤ r.lo ∧ r.lo ≤ r.hi ∧ r.hi ≤ 1114111 ∧ 0 ≤ r.val ∧ r.val ≤ 999999 := by
  simp [may, and_assoc]
def cells (r : Rg) : List Value := [.int .i32 r.lo, .int .i32 r.hi, .int .i64 r.val]
def v (r : Rg) : Value := .agg #[.int .i32 r.lo, .int .i32 r.hi, .int .i64 r.val]
end Rg
/-- the fault of the range number i, by itself and by the one ahead: 0: none -/
def codeAt (l : List Rg) (i : Nat) : Nat :=
  if (l.getD i default).may = false then 4 else if 0 < i ∧ (l.getD i default).lo ≤ (l.getD (i - 1) default).hi then 6 else 0
/-- the ranges at fault among the first n -/
def faultsTo (l : List Rg) (n : Nat) : List (Nat × Nat) := ((List.range n).filter fun i => codeAt l i != 0).map fun i => (i, codeAt l i)
def faultsM (l : List Rg) : List (Nat × Nat) := if 2000 < l.length then [(0, 18)] else faultsTo l l.length
theorem faultsTo_zero (l : List Rg) : faultsTo l 0 = [] := rfl
theorem faultsTo_succ (l : List Rg) (n : Nat) : faultsTo l (n + 1) = faultsTo l n ++ (if codeAt l n = 0 then [] else [(n, codeAt l n)]) := by
  unfold faultsTo
  rw [List.range_succ, List.filter_append, List.map_append]
  by_cases h : codeAt l n = 0 <;> simp [h]
theorem faultsTo_prefix (l : List Rg) (n m : Nat) (h : n ≤ m) : faultsTo l n <+: faultsTo l m := by
  induction m with
  | zero => obtain rfl : n = 0 := by omega
            exact List.prefix_refl _
  | succ m ih =>
    rcases Nat.lt_or_ge m n with g | g
    · obtain rfl : n = m + 1 := by omega
      exact List.prefix_refl _
    · rw [faultsTo_succ]; exact (ih g).trans (List.prefix_append _ _)
theorem codeAt_cases (l : List Rg) (i : Nat) : codeAt l i = 0 ∨ codeAt l i = 4 ∨ codeAt l i = 6 := by
  unfold codeAt; split
  · omega
  · split <;> omega
theorem faultsTo_mem (l : List Rg) (n : Nat) (x : Nat × Nat) (h : x ∈ faultsTo l n) : x.1 < n ∧ x.2 = codeAt l x.1 ∧ (x.2 = 4 ∨ x.2 = 6) := by
  unfold faultsTo at h
  obtain ⟨i, hi, rfl⟩ := List.mem_map.1 h
  obtain ⟨h1, h2⟩ := List.mem_filter.1 hi
  have := codeAt_cases l i
  simp at h1 h2
  exact ⟨h1, rfl, by simp; omega⟩
/-- what Check tells: the first fault -/
def chk (l : List Rg) : Nat × Nat := (faultsM l).headD (0, 0)
theorem chk_code (l : List Rg) : (chk l).2 = 0 ∨ (chk l).2 = 4 ∨ (chk l).2 = 6 ∨ (chk l).2 = 18 := by
  unfold chk faultsM
  split
  · simp
  · cases h : faultsTo l l.length with
    | nil => simp
    | cons x t =>
      have := faultsTo_mem l l.length x (by rw [h]; simp)
      simp; omega
/-- A TABLE -/
def Right (l : List Rg) : Prop := chk l = (0, 0)
theorem faultsTo_nil_iff (l : List Rg) (n : Nat) : faultsTo l n = [] ↔ ∀ i, i < n → codeAt l i = 0 := by
  induction n with
  | zero => simp [faultsTo_zero]
  | succ n ih =>
    rw [faultsTo_succ, List.append_eq_nil_iff, ih]
    constructor
    · rintro ⟨h1, h2⟩ i hi
      rcases Nat.lt_or_ge i n with g | g
      · exact h1 i g
      · obtain rfl : i = n := by omega
        by_cases h : codeAt l i = 0
        · exact h
        · simp [h] at h2
    · intro h
      exact ⟨fun i hi => h i (by omega), by simp [h n (by omega)]⟩
theorem right_iff (l : List Rg) : Right l ↔ l.length ≤ 2000 ∧ ∀ i, i < l.length → codeAt l i = 0 := by
  unfold Right chk faultsM
  split
  · simp; omega
  · rw [← faultsTo_nil_iff]
    cases h : faultsTo l l.length with
    | nil => simp; omega
    | cons x t =>
      have := faultsTo_mem l l.length x (by rw [h]; simp)
      simp
      intro e
      rw [e] at this; simp at this
/-- the first n are a table so far: what the first fault of all is, if it is at n -/
theorem chk_at (l : List Rg) (n : Nat) (hl : l.length ≤ 2000) (hn : n < l.length) (h0 : ∀ i, i < n → codeAt l i = 0) (hc : codeAt l n ≠ 0) : chk l = (n, codeAt l n) := by
  unfold chk faultsM
  rw [if_neg (by omega)]
  have h1 : faultsTo l (n + 1) = [(n, codeAt l n)] := by
    rw [faultsTo_succ, (faultsTo_nil_iff l n).2 h0, if_neg hc]; rfl
  obtain ⟨t, ht⟩ := faultsTo_prefix l (n + 1) l.length (by omega)
  rw [← ht, h1]; rfl
theorem chk_none (l : List Rg) (hl : l.length ≤ 2000) (h0 : ∀ i, i < l.length → codeAt l i = 0) : chk l = (0, 0) := by
  exact (right_iff l).2 ⟨hl, h0⟩
end Go.Proofs.YtcklfcoobccgcaaDoor

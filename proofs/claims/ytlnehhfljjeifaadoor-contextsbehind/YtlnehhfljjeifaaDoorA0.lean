/-
  What is proved here: plain mathematics of norms (no program): which rows may be, chains, what a rune is taken apart to, which rows compose, what a norm's first fault is.
-/
import Derived.Test.YtlnehhfljjeifaaDoorR7
namespace Go.Proofs.YtlnehhfljjeifaaDoor

/-- A ROW: a rune, and what it is taken apart to -/
structure Rw where
  fr : Int
  to : List Int
deriving DecidableEq, Inhabited
/-- A NORM -/
structure Nm where
  rows : List Rw
  cls : List Rg
  exc : List Int
def Rw.to0 (x : Rw) : Int := x.to.getD 0 0
def Rw.to1 (x : Rw) : Int := x.to.getD 1 0
/-- the row number i -/
def rw_ (l : List Rw) (i : Nat) : Rw := l.getD i default
def rightR (r : Int) : Bool := decide ((0 ≤ r ∧ r ≤ 55295) ∨ (57344 ≤ r ∧ r ≤ 1114111))
def isSyl (r : Int) : Bool := decide (44032 ≤ r ∧ r ≤ 55203)
def hang (r : Int) : Bool := decide ((44032 ≤ r ∧ r ≤ 55203) ∨ (4352 ≤ r ∧ r ≤ 4370) ∨ (4449 ≤ r ∧ r ≤ 4469) ∨ (4520 ≤ r ∧ r ≤ 4546))
def hangs (lo hi : Int) : Bool := decide ((lo ≤ 55203 ∧ 44032 ≤ hi) ∨ (lo ≤ 4370 ∧ 4352 ≤ hi) ∨ (lo ≤ 4469 ∧ 4449 ≤ hi) ∨ (lo ≤ 4546 ∧ 4520 ≤ hi))
theorem hangs_self (r : Int) : hangs r r = hang r := by
  unfold hangs hang; rw [decide_eq_decide]; omega
theorem hangs_false (lo hi : Int) (h : hangs lo hi = false) (r : Int) (h1 : lo ≤ r) (h2 : r ≤ hi) : hang r = false := by
  unfold hangs at h; unfold hang; rw [decide_eq_false_iff_not] at *; omega
theorem hangs_true (lo hi : Int) (h0 : lo ≤ hi) (h : hangs lo hi = true) : ∃ r, lo ≤ r ∧ r ≤ hi ∧ hang r = true := by
  unfold hangs at h; unfold hang; rw [decide_eq_true_eq] at h
  rcases h with h | h | h | h
  · exact ⟨max lo 44032, by omega, by omega, by rw [decide_eq_true_eq]; omega⟩
  · exact ⟨max lo 4352, by omega, by omega, by rw [decide_eq_true_eq]; omega⟩
  · exact ⟨max lo 4449, by omega, by omega, by rw [decide_eq_true_eq]; omega⟩
  · exact ⟨max lo 4520, by omega, by omega, by rw [decide_eq_true_eq]; omega⟩
/-- may a row have this rune? -/
def mayR (r : Int) : Bool := rightR r && !hang r
/-- may a row's To stand behind its From? -/
def formedR (x : Rw) : Bool := decide (x.to.length = 1 ∨ x.to.length = 2) && decide (x.to0 < x.fr) && x.to.all mayR
/-- how many rows the chain from a rune has, among the first k -/
def chainIn (l : List Rw) : Nat → Int → Nat
  | 0, _ => 0
  | k + 1, r => if (rw_ l k).fr = r then 1 + chainIn l k (rw_ l k).to0 else chainIn l k r
/-- what a rune is taken apart to, by the first k rows -/
def oneIn (l : List Rw) : Nat → Int → List Int
  | 0, r => [r]
  | k + 1, r => if (rw_ l k).fr = r then oneIn l k (rw_ l k).to0 ++ (rw_ l k).to.drop 1 else oneIn l k r
/-- the fault of the row number i -/
def rowCode (l : List Rw) (i : Nat) : Nat :=
  if mayR (rw_ l i).fr = false then 4
  else if 0 < i ∧ (rw_ l i).fr ≤ (rw_ l (i - 1)).fr then 6
  else if formedR (rw_ l i) = false then 5
  else if ((rw_ l i).to.length = 2 ∧ (l.any fun x => x.fr == (rw_ l i).to1) = true) ∨ 8 < 1 + chainIn l i (rw_ l i).to0 then 9 else 0
def clsCode (l : List Rg) (i : Nat) : Nat :=
  if 1 ≤ (l.getD i default).val ∧ (l.getD i default).val ≤ 254 ∧ hangs (l.getD i default).lo (l.getD i default).hi = false then 0 else 17
def excCode (l : List Int) (i : Nat) : Nat :=
  if rightR (l.getD i 0) = false then 4 else if 0 < i ∧ l.getD i 0 ≤ l.getD (i - 1) 0 then 6 else 0
def classOf (l : List Rg) (r : Int) : Int := (find l r).getD 0
/-- does the row number i compose? -/
def composesM (t : Nm) (i : Nat) : Bool :=
  decide ((rw_ t.rows i).to.length = 2) && !(t.exc.any fun x => x == (rw_ t.rows i).fr) && (classOf t.cls (rw_ t.rows i).fr == 0) && (classOf t.cls (rw_ t.rows i).to0 == 0)
def thereCode (t : Nm) (i : Nat) : Nat :=
  if composesM t i = true ∧ ((List.range i).any fun k => composesM t k && ((rw_ t.rows k).to0 == (rw_ t.rows i).to0 && (rw_ t.rows k).to1 == (rw_ t.rows i).to1)) = true then 7 else 0
/-- the first fault among n -/
def ff (f : Nat → Nat) (n : Nat) : Nat × Nat := match (List.range n).find? (fun i => f i != 0) with
  | some i => (i, f i)
  | none => (0, 0)
theorem ff_at (f : Nat → Nat) (n k : Nat) (hk : k < n) (h0 : ∀ i, i < k → f i = 0) (hc : f k ≠ 0) : ff f n = (k, f k) := by
  have e : (List.range n).find? (fun i => f i != 0) = some k := by
    rw [List.find?_eq_some_iff_getElem]
    refine ⟨by simpa using hc, k, by simpa using hk, by simp, fun j hj => by simp [h0 j hj]⟩
  unfold ff; rw [e]
theorem ff_none (f : Nat → Nat) (n : Nat) (h0 : ∀ i, i < n → f i = 0) : ff f n = (0, 0) := by
  have e : (List.range n).find? (fun i => f i != 0) = none := by
    rw [List.find?_eq_none]
    intro x hx
    simp [h0 x (by simpa using hx)]
  unfold ff; rw [e]
theorem ff_zero (f : Nat → Nat) (n : Nat) (h : (ff f n).2 = 0) : ∀ i, i < n → f i = 0 := by
  intro i hi
  unfold ff at h
  split at h
  · rename_i j e
    have := List.find?_some e
    simp at this h
    exact absurd h this
  · rename_i e
    rw [List.find?_eq_none] at e
    simpa using e i (by simpa using hi)
theorem ff_ne (f : Nat → Nat) (n : Nat) (h : (ff f n).2 ≠ 0) : ∃ k, k < n ∧ (∀ i, i < k → f i = 0) ∧ f k ≠ 0 ∧ ff f n = (k, f k) := by
  unfold ff at h
  split at h
  · rename_i j e
    obtain ⟨h1, k, hk, e1, h2⟩ := List.find?_eq_some_iff_getElem.1 e
    simp at e1 hk h1
    subst e1
    have h0 : ∀ i, i < k → f i = 0 := fun i hi => by have := h2 i hi; simpa using this
    exact ⟨k, hk, h0, h1, ff_at f n k hk h0 h1⟩
  · simp at h
def orE (a b : Nat × Nat) : Nat × Nat := if a.2 = 0 then b else a
theorem orE_zero {a b : Nat × Nat} (h : (orE a b).2 = 0) : a.2 = 0 ∧ b.2 = 0 := by
  unfold orE at h; split at h <;> simp_all
theorem orE_l {a b : Nat × Nat} (h : a.2 ≠ 0) : orE a b = a := by unfold orE; rw [if_neg h]
theorem orE_r {a b : Nat × Nat} (h : a.2 = 0) : orE a b = b := by unfold orE; rw [if_pos h]
/-- what Check tells of a norm -/
def chk4 (t : Nm) : Nat × Nat :=
  if 2000 < t.rows.length ∨ 2000 < t.exc.length then (0, 18)
  else orE (ff (rowCode t.rows) t.rows.length) (orE (chk t.cls) (orE (ff (clsCode t.cls) t.cls.length) (orE (ff (excCode t.exc) t.exc.length) (ff (thereCode t) t.rows.length))))
structure Right4 (t : Nm) : Prop where
  len : t.rows.length ≤ 2000
  lenE : t.exc.length ≤ 2000
  row : ∀ i, i < t.rows.length → rowCode t.rows i = 0
  cls : (chk t.cls).2 = 0
  clsC : ∀ i, i < t.cls.length → clsCode t.cls i = 0
  exc : ∀ i, i < t.exc.length → excCode t.exc i = 0
  there : ∀ i, i < t.rows.length → thereCode t i = 0
theorem right4 {t : Nm} (h : (chk4 t).2 = 0) : Right4 t := by
  unfold chk4 at h
  split at h
  · simp at h
  · obtain ⟨h1, h⟩ := orE_zero h
    obtain ⟨h2, h⟩ := orE_zero h
    obtain ⟨h3, h⟩ := orE_zero h
    obtain ⟨h4, h5⟩ := orE_zero h
    exact ⟨by omega, by omega, ff_zero _ _ h1, h2, ff_zero _ _ h3, ff_zero _ _ h4, ff_zero _ _ h5⟩
/-- the runes of the first n rows rise -/
def RiseR (l : List Rw) (n : Nat) : Prop := ∀ i j, i < j → j < n → (rw_ l i).fr < (rw_ l j).fr
theorem step_rise {f : Nat → Int} {n : Nat} (h : ∀ i, 0 < i → i < n → f (i - 1) < f i) : ∀ i j, i < j → j < n → f i < f j := by
  intro i j hij
  induction j with
  | zero => omega
  | succ j ih =>
    intro hj
    have h1 := h (j + 1) (by omega) hj
    simp only [Nat.add_sub_cancel] at h1
    rcases Nat.eq_or_lt_of_le (Nat.le_of_lt_succ hij) with rfl | g
    · exact h1
    · have := ih g (by omega)
      omega
theorem rowCode_zero {l : List Rw} {i : Nat} (h : rowCode l i = 0) : mayR (rw_ l i).fr = true ∧ (0 < i → (rw_ l (i - 1)).fr < (rw_ l i).fr) ∧ formedR (rw_ l i) = true ∧ ((rw_ l i).to.length = 2 → (l.any fun x => x.fr == (rw_ l i).to1) = false) ∧ 1 + chainIn l i (rw_ l i).to0 ≤ 8 := by
  unfold rowCode at h
  split at h
  · omega
  · rename_i h1
    split at h
    · omega
    · rename_i h2
      split at h
      · omega
      · rename_i h3
        split at h
        · omega
        · rename_i h4
          refine ⟨by simpa using h1, fun h0 => by omega, by simpa using h3, fun e => ?_, by omega⟩
          rw [not_or] at h4
          cases hh : (l.any fun x => x.fr == (rw_ l i).to1)
          · rfl
          · exact absurd ⟨e, hh⟩ h4.1
theorem rise_of {l : List Rw} {n : Nat} (h : ∀ i, i < n → rowCode l i = 0) : RiseR l n :=
  step_rise (f := fun i => (rw_ l i).fr) fun i h0 hi => (rowCode_zero (h i hi)).2.1 h0
theorem formed_parts {x : Rw} (h : formedR x = true) : (x.to.length = 1 ∨ x.to.length = 2) ∧ x.to0 < x.fr ∧ mayR x.to0 = true ∧ ∀ r ∈ x.to, mayR r = true := by
  unfold formedR at h
  rw [Bool.and_eq_true, Bool.and_eq_true, decide_eq_true_eq, decide_eq_true_eq, List.all_eq_true] at h
  refine ⟨h.1.1, h.1.2, h.2 _ ?_, h.2⟩
  unfold Rw.to0
  have : 0 < x.to.length := by omega
  rw [List.getD, List.getElem?_eq_getElem this]
  exact List.getElem_mem this
theorem may_right {r : Int} (h : mayR r = true) : rightR r = true ∧ hang r = false := by
  unfold mayR at h; simpa using h
theorem hang_syl {r : Int} (h : hang r = false) : isSyl r = false := by
  unfold hang at h; unfold isSyl; rw [decide_eq_false_iff_not] at *; omega
theorem chainIn_succ (l : List Rw) (k : Nat) (r : Int) : chainIn l (k + 1) r = if (rw_ l k).fr = r then 1 + chainIn l k (rw_ l k).to0 else chainIn l k r := rfl
theorem oneIn_succ (l : List Rw) (k : Nat) (r : Int) : oneIn l (k + 1) r = if (rw_ l k).fr = r then oneIn l k (rw_ l k).to0 ++ (rw_ l k).to.drop 1 else oneIn l k r := rfl
theorem chain_miss (l : List Rw) (k : Nat) (r : Int) (h : ∀ j, j < k → (rw_ l j).fr ≠ r) : chainIn l k r = 0 := by
  induction k with
  | zero => rfl
  | succ k ih => rw [chainIn_succ]; rw [if_neg (h k (by omega))]; exact ih fun j hj => h j (by omega)
theorem chain_hit (l : List Rw) (k i : Nat) (r : Int) (hi : i < k) (hr : RiseR l k) (e : (rw_ l i).fr = r) : chainIn l k r = 1 + chainIn l i (rw_ l i).to0 := by
  induction k with
  | zero => omega
  | succ k ih =>
    rw [chainIn_succ]
    rcases Nat.eq_or_lt_of_le (Nat.le_of_lt_succ hi) with rfl | g
    · rw [if_pos e]
    · rw [if_neg (by have := hr i k g (by omega); omega)]
      exact ih g fun a b hab hb => hr a b hab (by omega)
theorem one_miss (l : List Rw) (k : Nat) (r : Int) (h : ∀ j, j < k → (rw_ l j).fr ≠ r) : oneIn l k r = [r] := by
  induction k with
  | zero => rfl
  | succ k ih => rw [oneIn_succ]; rw [if_neg (h k (by omega))]; exact ih fun j hj => h j (by omega)
theorem one_hit (l : List Rw) (k i : Nat) (r : Int) (hi : i < k) (hr : RiseR l k) (e : (rw_ l i).fr = r) : oneIn l k r = oneIn l i (rw_ l i).to0 ++ (rw_ l i).to.drop 1 := by
  induction k with
  | zero => omega
  | succ k ih =>
    rw [oneIn_succ]
    rcases Nat.eq_or_lt_of_le (Nat.le_of_lt_succ hi) with rfl | g
    · rw [if_pos e]
    · rw [if_neg (by have := hr i k g (by omega); omega)]
      exact ih g fun a b hab hb => hr a b hab (by omega)
/-- a syllable's parts -/
def sylM (r : Int) : List Int := [4352 + (r - 44032) / 588, 4449 + (r - 44032) / 28 % 21] ++ (if (r - 44032) % 28 = 0 then [] else [4519 + (r - 44032) % 28])
/-- what a rune is taken apart to -/
def oneM (l : List Rw) (r : Int) : List Int := if isSyl r = true then sylM r else oneIn l l.length r
theorem exc_rise {l : List Int} (h : ∀ i, i < l.length → excCode l i = 0) : ∀ i j, i < j → j < l.length → l.getD i 0 < l.getD j 0 :=
  step_rise (f := fun i => l.getD i 0) fun i h0 hi => by
    have := h i hi
    unfold excCode at this
    split at this
    · omega
    · split at this
      · omega
      · omega
end Go.Proofs.YtlnehhfljjeifaaDoor

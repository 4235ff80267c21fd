/-
  What is proved here: plain mathematics of properties (no program): which line of the table of classes says what a rune is, its class, what is wrong with properties first.
-/
import Derived.Test.YtcklfcoobccgcaaDoorA0
namespace Go.Proofs.YtcklfcoobccgcaaDoor

def plainR (r : Int) : Bool := decide ((97 ≤ r ∧ r ≤ 122) ∨ (48 ≤ r ∧ r ≤ 57) ∨ r = 45)
/-- has a table a rune? -/
def hasB (l : List Rg) (r : Int) : Bool := (find l r).isSome
/-- what a table says of a rune, 0 if it has none -/
def valM (l : List Rg) (r : Int) : Int := (find l r).getD 0
/-- the first ten lines of the table of classes (the number i is counted from 0 on): PROPERTIES are eleven tables in their order -/
def lineB (t : Nat → List Rg) (r : Int) : Nat → Bool
  | 0 => !rightR r
  | 1 => hasB (t 0) r
  | 2 => hasB (t 1) r
  | 3 => plainR r
  | 4 => hasB (t 2) r
  | 5 => hasB (t 3) r
  | 6 => hasB (t 4) r
  | 7 => hasB (t 5) r
  | 8 => hasB (t 6) r
  | _ => true
/-- the first line from k on that holds, of n more lines -/
def firstFrom (f : Nat → Bool) : Nat → Nat → Nat
  | 0, k => k
  | n + 1, k => if f k = true then k else firstFrom f n (k + 1)
theorem firstFrom_yes {f : Nat → Bool} {n k : Nat} (h : f k = true) : firstFrom f (n + 1) k = k := by simp [firstFrom, h]
theorem firstFrom_no {f : Nat → Bool} {n k : Nat} (h : f k = false) : firstFrom f (n + 1) k = firstFrom f n (k + 1) := by simp [firstFrom, h]
theorem firstFrom_le (f : Nat → Bool) : ∀ n k, k ≤ firstFrom f n k ∧ firstFrom f n k ≤ k + n
  | 0, k => by simp [firstFrom]
  | n + 1, k => by
    have := firstFrom_le f n (k + 1)
    unfold firstFrom
    split <;> omega
theorem firstFrom_hit {f : Nat → Bool} : ∀ {n k j : Nat}, k ≤ j → j < k + n → (∀ i, k ≤ i → i < j → f i = false) → f j = true → firstFrom f n k = j
  | 0, k, j, h1, h2, _, _ => by omega
  | n + 1, k, j, h1, h2, h3, h4 => by
    unfold firstFrom
    by_cases e : k = j
    · subst e; rw [if_pos h4]
    · rw [if_neg (by rw [h3 k (Nat.le_refl _) (by omega)]; decide)]
      exact firstFrom_hit (by omega) (by omega) (fun i hi hj => h3 i (by omega) hj) h4
theorem firstFrom_all {f : Nat → Bool} : ∀ {n k : Nat}, (∀ i, k ≤ i → i < k + n → f i = false) → firstFrom f n k = k + n
  | 0, k, _ => by simp [firstFrom]
  | n + 1, k, h => by
    unfold firstFrom
    rw [if_neg (by rw [h k (Nat.le_refl _) (by omega)]; decide), firstFrom_all (fun i hi hj => h i (by omega) (by omega))]
    omega
/-- the line that says what a rune is, from 1 on -/
def whyM (t : Nat → List Rg) (r : Int) : Nat := firstFrom (lineB t r) 9 0 + 1
theorem whyM_range (t : Nat → List Rg) (r : Int) : 1 ≤ whyM t r ∧ whyM t r ≤ 10 := by
  have := firstFrom_le (lineB t r) 9 0
  unfold whyM; omega
theorem why_is {t : Nat → List Rg} {r : Int} {j : Nat} (h0 : ∀ i, i < j → lineB t r i = false) (h : lineB t r j = true) (hj : j ≤ 9) : whyM t r = j + 1 := by
  unfold whyM
  rcases Nat.eq_or_lt_of_le hj with rfl | g
  · rw [firstFrom_all (fun i _ hi => h0 i (by omega))]
  · rw [firstFrom_hit (Nat.zero_le _) (by omega) (fun i _ hi => h0 i hi) h]
/-- a rune's class -/
def ofM (t : Nat → List Rg) (r : Int) : Int := if whyM t r = 2 then valM (t 0) r else ([0, 4, 0, 5, 1, 2, 4, 4, 4, 1, 4] : List Int).getD (whyM t r) 0
/-- the greatest value that a table may have (0: any) -/
def mst : Nat → Nat
  | 0 => 5
  | 7 => 4
  | 8 => 5
  | 9 => 11
  | _ => 0
def kindAt (m : Nat) (l : List Rg) (i : Nat) : Nat := if 0 < m ∧ ((l.getD i default).val < 1 ∨ (m : Int) < (l.getD i default).val) then 17 else 0
/-- what is wrong with a table whose greatest value is m -/
def chkT (l : List Rg) (m : Nat) : Nat × Nat := orE (chk l) (ff (kindAt m l) l.length)
def chkFrom (t : Nat → List Rg) : Nat → Nat → Nat × Nat
  | 0, _ => (0, 0)
  | n + 1, k => orE (chkT (t k) (mst k)) (chkFrom t n (k + 1))
theorem chkFrom_succ (t : Nat → List Rg) (n k : Nat) : chkFrom t (n + 1) k = orE (chkT (t k) (mst k)) (chkFrom t n (k + 1)) := rfl
/-- WHAT IS WRONG WITH PROPERTIES FIRST -/
def chk7 (t : Nat → List Rg) : Nat × Nat := chkFrom t 11 0
theorem chkFrom_at {t : Nat → List Rg} : ∀ {n k j : Nat}, k ≤ j → j < k + n → (∀ i, k ≤ i → i < j → (chkT (t i) (mst i)).2 = 0) → (chkT (t j) (mst j)).2 ≠ 0 → chkFrom t n k = chkT (t j) (mst j)
  | 0, k, j, h1, h2, _, _ => by omega
  | n + 1, k, j, h1, h2, h3, h4 => by
    unfold chkFrom
    by_cases e : k = j
    · subst e; exact orE_l h4
    · rw [orE_r (h3 k (Nat.le_refl _) (by omega))]
      exact chkFrom_at (by omega) (by omega) (fun i hi hj => h3 i (by omega) hj) h4
theorem chkFrom_none {t : Nat → List Rg} : ∀ {n k : Nat}, (∀ i, k ≤ i → i < k + n → (chkT (t i) (mst i)).2 = 0) → chkFrom t n k = (0, 0)
  | 0, k, _ => rfl
  | n + 1, k, h => by
    unfold chkFrom
    rw [orE_r (h k (Nat.le_refl _) (by omega))]
    exact chkFrom_none (fun i hi hj => h i (by omega) (by omega))
theorem chk7_at {t : Nat → List Rg} {j : Nat} (hj : j < 11) (h0 : ∀ i, i < j → (chkT (t i) (mst i)).2 = 0) (h : (chkT (t j) (mst j)).2 ≠ 0) : chk7 t = chkT (t j) (mst j) :=
  chkFrom_at (Nat.zero_le _) (by omega) (fun i _ hi => h0 i hi) h
theorem chk7_none {t : Nat → List Rg} (h0 : ∀ i, i < 11 → (chkT (t i) (mst i)).2 = 0) : chk7 t = (0, 0) := chkFrom_none (fun i _ hi => h0 i (by omega))
theorem chk7_zero {t : Nat → List Rg} (h : (chk7 t).2 = 0) : ∀ i, i < 11 → (chkT (t i) (mst i)).2 = 0 := by
  have key : ∀ n k, (chkFrom t n k).2 = 0 → ∀ i, k ≤ i → i < k + n → (chkT (t i) (mst i)).2 = 0 := by
    intro n
    induction n with
    | zero => intro k _ i h1 h2; omega
    | succ n ih =>
      intro k hk i h1 h2
      unfold chkFrom at hk
      obtain ⟨q1, q2⟩ := orE_zero hk
      rcases Nat.eq_or_lt_of_le h1 with rfl | g
      · exact q1
      · exact ih (k + 1) q2 i g (by omega)
  exact fun i hi => key 11 0 h i (Nat.zero_le _) (by omega)
/-- WHAT RIGHT PROPERTIES ARE -/
theorem right7 {t : Nat → List Rg} (h : (chk7 t).2 = 0) : ∀ i, i < 11 → (t i).length ≤ 2000 ∧ Apart (t i) ∧ Rises (t i) ∧ ∀ j, j < (t i).length → kindAt (mst i) (t i) j = 0 := fun i hi => by
  obtain ⟨h1, h2⟩ := orE_zero (chk7_zero h i hi)
  obtain ⟨q1, -, q3, q4⟩ := right_parts h1
  exact ⟨q1, q3, q4, ff_zero _ _ h2⟩
theorem chk_fault {l : List Rg} (h : (chk l).2 ≠ 0) : (chk l).2 = 4 ∨ (chk l).2 = 6 ∨ (chk l).2 = 18 := by
  unfold chk at *
  cases hf : faultsM l with
  | nil => rw [hf] at h; exact absurd rfl h
  | cons x s =>
    have hx : x ∈ faultsM l := by rw [hf]; simp
    unfold faultsM at hx
    split at hx
    · simp at hx; subst hx; exact .inr (.inr rfl)
    · unfold faultsTo at hx
      obtain ⟨i, hi, rfl⟩ := List.mem_map.1 hx
      have := (List.mem_filter.1 hi).2
      show codeAt l i = 4 ∨ codeAt l i = 6 ∨ codeAt l i = 18
      have hc : codeAt l i ≠ 0 := by simpa using this
      unfold codeAt at *
      split
      · exact .inl rfl
      · split
        · exact .inr (.inl rfl)
        · rename_i h1 h2; rw [if_neg h1, if_neg h2] at hc; exact absurd rfl hc
theorem chk7_fault {t : Nat → List Rg} (h : (chk7 t).2 ≠ 0) : (chk7 t).2 = 4 ∨ (chk7 t).2 = 6 ∨ (chk7 t).2 = 17 ∨ (chk7 t).2 = 18 := by
  have key : ∀ n k, (chkFrom t n k).2 ≠ 0 → (chkFrom t n k).2 = 4 ∨ (chkFrom t n k).2 = 6 ∨ (chkFrom t n k).2 = 17 ∨ (chkFrom t n k).2 = 18 := by
    intro n
    induction n with
    | zero => intro k hk; exact absurd rfl hk
    | succ n ih =>
      intro k hk
      rw [chkFrom_succ] at hk ⊢
      by_cases e : (chkT (t k) (mst k)).2 = 0
      · rw [orE_r e] at hk ⊢; exact ih (k + 1) hk
      · rw [orE_l e]
        unfold chkT at e ⊢
        by_cases e1 : (chk (t k)).2 = 0
        · rw [orE_r e1] at e ⊢
          obtain ⟨j, hj, _, h2, h3⟩ := ff_ne _ _ e
          rw [h3]
          show kindAt (mst k) (t k) j = 4 ∨ _
          unfold kindAt at *
          split
          · exact .inr (.inr (.inl rfl))
          · rename_i g; rw [if_neg g] at h2; exact absurd rfl h2
        · rw [orE_l e1]
          rcases chk_fault e1 with g | g | g
          · exact .inl g
          · exact .inr (.inl g)
          · exact .inr (.inr (.inr g))
  exact key 11 0 h
theorem find_val {l : List Rg} {r v : Int} (h : find l r = some v) : ∃ j, j < l.length ∧ v = (l.getD j default).val := by
  unfold find at h
  obtain ⟨x, hx, rfl⟩ := Option.map_eq_some_iff.1 h
  obtain ⟨k, hk, e⟩ := List.mem_iff_getElem.1 (List.mem_of_find?_eq_some hx)
  exact ⟨k, hk, by rw [← e]; simp [List.getD, List.getElem?_eq_getElem hk]⟩
/-- of right properties a rune's class is one of five -/
theorem ofM_range {t : Nat → List Rg} (h : (chk7 t).2 = 0) (r : Int) : 1 ≤ ofM t r ∧ ofM t r ≤ 5 := by
  unfold ofM
  by_cases e : whyM t r = 2
  · rw [if_pos e]
    have hb : hasB (t 0) r = true := by
      cases hc : lineB t r 1 with
      | true => exact hc
      | false =>
        exfalso
        unfold whyM at e
        have e1 : firstFrom (lineB t r) 9 0 = 1 := by omega
        by_cases h0 : lineB t r 0 = true
        · rw [firstFrom_yes h0] at e1; omega
        · rw [firstFrom_no (by simpa using h0), firstFrom_no hc] at e1
          have e2 : firstFrom (lineB t r) 7 2 = 1 := e1
          have := (firstFrom_le (lineB t r) 7 2).1
          omega
    unfold hasB at hb
    obtain ⟨v, hv⟩ := Option.isSome_iff_exists.1 hb
    unfold valM
    rw [hv]
    obtain ⟨j, hj, rfl⟩ := find_val hv
    have hk := (right7 h 0 (by omega)).2.2.2 j hj
    unfold kindAt at hk
    split at hk
    · omega
    · rename_i g
      have : mst 0 = 5 := rfl
      rw [this] at g
      show 1 ≤ ((t 0).getD j default).val ∧ _
      simp only [Option.getD_some]
      omega
  · rw [if_neg e]
    have := whyM_range t r
    rcases (by omega : whyM t r = 1 ∨ whyM t r = 3 ∨ whyM t r = 4 ∨ whyM t r = 5 ∨ whyM t r = 6 ∨ whyM t r = 7 ∨ whyM t r = 8 ∨ whyM t r = 9 ∨ whyM t r = 10) with q | q | q | q | q | q | q | q | q <;> rw [q] <;> decide
/-- properties of which four tables are taken out -/
def bare (t : Nat → List Rg) (i : Nat) : List Rg := if i = 0 ∨ i = 1 ∨ i = 2 ∨ i = 6 then [] else t i
theorem hasB_nil (r : Int) : hasB [] r = false := rfl
theorem bare_of (t : Nat → List Rg) (r : Int) (h0 : 0 ≤ r) (h1 : r ≤ 127) : ofM (bare t) r = 1 ↔ plainR r = true := by
  have l0 : lineB (bare t) r 0 = false := by
    show (!rightR r) = false
    unfold rightR
    rw [decide_eq_true (by omega)]; rfl
  have l1 : lineB (bare t) r 1 = false := rfl
  have l2 : lineB (bare t) r 2 = false := rfl
  have l4 : lineB (bare t) r 4 = false := rfl
  have l8 : lineB (bare t) r 8 = false := rfl
  cases hp : plainR r with
  | true =>
    have hw : whyM (bare t) r = 4 := why_is (j := 3) (fun i hi => by rcases (by omega : i = 0 ∨ i = 1 ∨ i = 2) with rfl | rfl | rfl <;> assumption) hp (by omega)
    unfold ofM; rw [hw]; simp
  | false =>
    have l3 : lineB (bare t) r 3 = false := hp
    have hw : whyM (bare t) r = 6 ∨ whyM (bare t) r = 7 ∨ whyM (bare t) r = 8 ∨ whyM (bare t) r = 10 := by
      unfold whyM
      rw [firstFrom_no l0, firstFrom_no l1, firstFrom_no l2, firstFrom_no l3, firstFrom_no l4]
      by_cases q5 : lineB (bare t) r 5 = true
      · rw [firstFrom_yes q5]; omega
      rw [firstFrom_no (by simpa using q5)]
      by_cases q6 : lineB (bare t) r 6 = true
      · rw [firstFrom_yes q6]; omega
      rw [firstFrom_no (by simpa using q6)]
      by_cases q7 : lineB (bare t) r 7 = true
      · rw [firstFrom_yes q7]; omega
      rw [firstFrom_no (by simpa using q7), firstFrom_no l8]
      simp [firstFrom]
    unfold ofM
    rcases hw with q | q | q | q <;> rw [q] <;> simp
/-- how many of the first n runes have the class k -/
def cntM (t : Nat → List Rg) (l : List Int) : Nat → Int → Nat
  | 0, _ => 0
  | n + 1, k => cntM t l n k + (if ofM t (l.getD n 0) = k then 1 else 0)
theorem cntM_le (t : Nat → List Rg) (l : List Int) (k : Int) : ∀ n, cntM t l n k ≤ n
  | 0 => Nat.le_refl _
  | n + 1 => by have := cntM_le t l k n; unfold cntM; split <;> omega
/-- the first of the runes with a class, among the first n, from the place k on; -1: none -/
def firstM (t : Nat → List Rg) (l : List Int) (class_ : Int) : Int := match (List.range l.length).find? (fun i => ofM t (l.getD i 0) == class_) with
  | some i => (i : Int)
  | none => -1
theorem firstM_at {t : Nat → List Rg} {l : List Int} {c : Int} {k : Nat} (hk : k < l.length) (h0 : ∀ i, i < k → ofM t (l.getD i 0) ≠ c) (h : ofM t (l.getD k 0) = c) : firstM t l c = k := by
  have e : (List.range l.length).find? (fun i => ofM t (l.getD i 0) == c) = some k := by
    rw [List.find?_eq_some_iff_getElem]
    refine ⟨by simpa using h, k, by simpa using hk, by simp, fun j hj => by have := h0 j hj; simpa using this⟩
  unfold firstM; rw [e]
theorem firstM_none {t : Nat → List Rg} {l : List Int} {c : Int} (h0 : ∀ i, i < l.length → ofM t (l.getD i 0) ≠ c) : firstM t l c = -1 := by
  have e : (List.range l.length).find? (fun i => ofM t (l.getD i 0) == c) = none := by
    rw [List.find?_eq_none]
    intro x hx
    have := h0 x (by simpa using hx)
    simpa using this
  unfold firstM; rw [e]
end Go.Proofs.YtcklfcoobccgcaaDoor

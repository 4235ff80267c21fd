/-
  What is proved here: plain mathematics of properties (no program): which line of the table of classes says what a rune is, its class, what is wrong with properties first. · plain mathematics of the rules of contexts (no program): a rune's rule, whether it holds, what follows of digits. · properties as a value and in a block of their own; what classes' has, value, ascii and the like answer; utf.Right; the reference's Right, Has. · what contexts' Rule and stands answer, and slices.IndexFunc and ContainsFunc at runes, whatever function is handed in; the reference's Rule.
-/
import Derived.Test.YtlnehhfljjeifaaDoorA0
namespace Go.Proofs.YtlnehhfljjeifaaDoor

def plainR (r : Int) : Bool := decide ((97 ≤ r ∧ r ≤ 122) ∨ (48 ≤ r ∧ r ≤ 57) ∨ r = 45)
/-- has a table a rune? -/
def hasB (l : List Rg) (r : Int) : Bool := (find l r).isSome
/-- what a table says of a rune, 0 if it has none -/
def valM (l : List Rg) (r : Int) : Int := (find l r).getD 0
/-- the first ten lines of the table of classes (the number i is counted from 0 on): PROPERTIES are eleven tables in their order -/
def lineB (t : Nat → List Rg) (r : Int) : Nat → Bool
  | 0 => !rightR r
  | 1 => hasB (t 0) r
  | 2 => hasB (t 1) r
  | 3 => plainR r
  | 4 => hasB (t 2) r
  | 5 => hasB (t 3) r
  | 6 => hasB (t 4) r
  | 7 => hasB (t 5) r
  | 8 => hasB (t 6) r
  | _ => true
/-- the first line from k on that holds, of n more lines -/
def firstFrom (f : Nat → Bool) : Nat → Nat → Nat
  | 0, k => k
  | n + 1, k => if f k = true then k else firstFrom f n (k + 1)
theorem firstFrom_yes {f : Nat → Bool} {n k : Nat} (h : f k = true) : firstFrom f (n + 1) k = k := by simp [firstFrom, h]
theorem firstFrom_no {f : Nat → Bool} {n k : Nat} (h : f k = false) : firstFrom f (n + 1) k = firstFrom f n (k + 1) := by simp [firstFrom, h]
theorem firstFrom_le (f : Nat → Bool) : ∀ n k, k ≤ firstFrom f n k ∧ firstFrom f n k ≤ k + n
  | 0, k => by simp [firstFrom]
  | n + 1, k => by
    have := firstFrom_le f n (k + 1)
    unfold firstFrom
    split <;> omega
theorem firstFrom_hit {f : Nat → Bool} : ∀ {n k j : Nat}, k ≤ j → j < k + n → (∀ i, k ≤ i → i < j → f i = false) → f j = true → firstFrom f n k = j
  | 0, k, j, h1, h2, _, _ => by omega
  | n + 1, k, j, h1, h2, h3, h4 => by
    unfold firstFrom
    by_cases e : k = j
    · subst e; rw [if_pos h4]
    · rw [if_neg (by rw [h3 k (Nat.le_refl _) (by omega)]; decide)]
      exact firstFrom_hit (by omega) (by omega) (fun i hi hj => h3 i (by omega) hj) h4
theorem firstFrom_all {f : Nat → Bool} : ∀ {n k : Nat}, (∀ i, k ≤ i → i < k + n → f i = false) → firstFrom f n k = k + n
  | 0, k, _ => by simp [firstFrom]
  | n + 1, k, h => by
    unfold firstFrom
    rw [if_neg (by rw [h k (Nat.le_refl _) (by omega)]; decide), firstFrom_all (fun i hi hj => h i (by omega) (by omega))]
    omega
/-- the line that says what a rune is, from 1 on -/
def whyM (t : Nat → List Rg) (r : Int) : Nat := firstFrom (lineB t r) 9 0 + 1
theorem whyM_range (t : Nat → List Rg) (r : Int) : 1 ≤ whyM t r ∧ whyM t r ≤ 10 := by
  have := firstFrom_le (lineB t r) 9 0
  unfold whyM; omega
theorem why_is {t : Nat → List Rg} {r : Int} {j : Nat} (h0 : ∀ i, i < j → lineB t r i = false) (h : lineB t r j = true) (hj : j ≤ 9) : whyM t r = j + 1 := by
  unfold whyM
  rcases Nat.eq_or_lt_of_le hj with rfl | g
  · rw [firstFrom_all (fun i _ hi => h0 i (by omega))]
  · rw [firstFrom_hit (Nat.zero_le _) (by omega) (fun i _ hi => h0 i hi) h]
/-- a rune's class -/
def ofM (t : Nat → List Rg) (r : Int) : Int := if whyM t r = 2 then valM (t 0) r else ([0, 4, 0, 5, 1, 2, 4, 4, 4, 1, 4] : List Int).getD (whyM t r) 0
/-- the greatest value that a table may have (0: any) -/
def mst : Nat → Nat
  | 0 => 5
  | 7 => 4
  | 8 => 5
  | 9 => 11
  | _ => 0
def kindAt (m : Nat) (l : List Rg) (i : Nat) : Nat := if 0 < m ∧ ((l.getD i default).val < 1 ∨ (m : Int) < (l.getD i default).val) then 17 else 0
/-- what is wrong with a table whose greatest value is m -/
def chkT (l : List Rg) (m : Nat) : Nat × Nat := orE (chk l) (ff (kindAt m l) l.length)
def chkFrom (t : Nat → List Rg) : Nat → Nat → Nat × Nat
  | 0, _ => (0, 0)
  | n + 1, k => orE (chkT (t k) (mst k)) (chkFrom t n (k + 1))
theorem chkFrom_succ (t : Nat → List Rg) (n k : Nat) : chkFrom t (n + 1) k = orE (chkT (t k) (mst k)) (chkFrom t n (k + 1)) := rfl
/-- WHAT IS WRONG WITH PROPERTIES FIRST -/
def chk7 (t : Nat → List Rg) : Nat × Nat := chkFrom t 11 0
theorem chkFrom_at {t : Nat → List Rg} : ∀ {n k j : Nat}, k ≤ j → j < k + n → (∀ i, k ≤ i → i < j → (chkT (t i) (mst i)).2 = 0) → (chkT (t j) (mst j)).2 ≠ 0 → chkFrom t n k = chkT (t j) (mst j)
  | 0, k, j, h1, h2, _, _ => by omega
  | n + 1, k, j, h1, h2, h3, h4 => by
    unfold chkFrom
    by_cases e : k = j
    · subst e; exact orE_l h4
    · rw [orE_r (h3 k (Nat.le_refl _) (by omega))]
      exact chkFrom_at (by omega) (by omega) (fun i hi hj => h3 i (by omega) hj) h4
theorem chkFrom_none {t : Nat → List Rg} : ∀ {n k : Nat}, (∀ i, k ≤ i → i < k + n → (chkT (t i) (mst i)).2 = 0) → chkFrom t n k = (0, 0)
  | 0, k, _ => rfl
  | n + 1, k, h => by
    unfold chkFrom
    rw [orE_r (h k (Nat.le_refl _) (by omega))]
    exact chkFrom_none (fun i hi hj => h i (by omega) (by omega))
theorem chk7_at {t : Nat → List Rg} {j : Nat} (hj : j < 11) (h0 : ∀ i, i < j → (chkT (t i) (mst i)).2 = 0) (h : (chkT (t j) (mst j)).2 ≠ 0) : chk7 t = chkT (t j) (mst j) :=
  chkFrom_at (Nat.zero_le _) (by omega) (fun i _ hi => h0 i hi) h
theorem chk7_none {t : Nat → List Rg} (h0 : ∀ i, i < 11 → (chkT (t i) (mst i)).2 = 0) : chk7 t = (0, 0) := chkFrom_none (fun i _ hi => h0 i (by omega))
theorem chk7_zero {t : Nat → List Rg} (h : (chk7 t).2 = 0) : ∀ i, i < 11 → (chkT (t i) (mst i)).2 = 0 := by
  have key : ∀ n k, (chkFrom t n k).2 = 0 → ∀ i, k ≤ i → i < k + n → (chkT (t i) (mst i)).2 = 0 := by
    intro n
    induction n with
    | zero => intro k _ i h1 h2; omega
    | succ n ih =>
      intro k hk i h1 h2
      unfold chkFrom at hk
      obtain ⟨q1, q2⟩ := orE_zero hk
      rcases Nat.eq_or_lt_of_le h1 with rfl | g
      · exact q1
      · exact ih (k + 1) q2 i g (by omega)
  exact fun i hi => key 11 0 h i (Nat.zero_le _) (by omega)
/-- WHAT RIGHT PROPERTIES ARE -/
theorem right7 {t : Nat → List Rg} (h : (chk7 t).2 = 0) : ∀ i, i < 11 → (t i).length ≤ 2000 ∧ Apart (t i) ∧ Rises (t i) ∧ ∀ j, j < (t i).length → kindAt (mst i) (t i) j = 0 := fun i hi => by
  obtain ⟨h1, h2⟩ := orE_zero (chk7_zero h i hi)
  obtain ⟨q1, -, q3, q4⟩ := right_parts h1
  exact ⟨q1, q3, q4, ff_zero _ _ h2⟩
theorem chk_fault {l : List Rg} (h : (chk l).2 ≠ 0) : (chk l).2 = 4 ∨ (chk l).2 = 6 ∨ (chk l).2 = 18 := by
  unfold chk at *
  cases hf : faultsM l with
  | nil => rw [hf] at h; exact absurd rfl h
  | cons x s =>
    have hx : x ∈ faultsM l := by rw [hf]; simp
    unfold faultsM at hx
    split at hx
    · simp at hx; subst hx; exact .inr (.inr rfl)
    · unfold faultsTo at hx
      obtain ⟨i, hi, rfl⟩ := List.mem_map.1 hx
      have := (List.mem_filter.1 hi).2
      show codeAt l i = 4 ∨ codeAt l i = 6 ∨ codeAt l i = 18
      have hc : codeAt l i ≠ 0 := by simpa using this
      unfold codeAt at *
      split
      · exact .inl rfl
      · split
        · exact .inr (.inl rfl)
        · rename_i h1 h2; rw [if_neg h1, if_neg h2] at hc; exact absurd rfl hc
theorem chk7_fault {t : Nat → List Rg} (h : (chk7 t).2 ≠ 0) : (chk7 t).2 = 4 ∨ (chk7 t).2 = 6 ∨ (chk7 t).2 = 17 ∨ (chk7 t).2 = 18 := by
  have key : ∀ n k, (chkFrom t n k).2 ≠ 0 → (chkFrom t n k).2 = 4 ∨ (chkFrom t n k).2 = 6 ∨ (chkFrom t n k).2 = 17 ∨ (chkFrom t n k).2 = 18 := by
    intro n
    induction n with
    | zero => intro k hk; exact absurd rfl hk
    | succ n ih =>
      intro k hk
      rw [chkFrom_succ] at hk ⊢
      by_cases e : (chkT (t k) (mst k)).2 = 0
      · rw [orE_r e] at hk ⊢; exact ih (k + 1) hk
      · rw [orE_l e]
        unfold chkT at e ⊢
        by_cases e1 : (chk (t k)).2 = 0
        · rw [orE_r e1] at e ⊢
          obtain ⟨j, hj, _, h2, h3⟩ := ff_ne _ _ e
          rw [h3]
          show kindAt (mst k) (t k) j = 4 ∨ _
          unfold kindAt at *
          split
          · exact .inr (.inr (.inl rfl))
          · rename_i g; rw [if_neg g] at h2; exact absurd rfl h2
        · rw [orE_l e1]
          rcases chk_fault e1 with g | g | g
          · exact .inl g
          · exact .inr (.inl g)
          · exact .inr (.inr (.inr g))
  exact key 11 0 h
theorem find_val {l : List Rg} {r v : Int} (h : find l r = some v) : ∃ j, j < l.length ∧ v = (l.getD j default).val := by
  unfold find at h
  obtain ⟨x, hx, rfl⟩ := Option.map_eq_some_iff.1 h
  obtain ⟨k, hk, e⟩ := List.mem_iff_getElem.1 (List.mem_of_find?_eq_some hx)
  exact ⟨k, hk, by rw [← e]; simp [List.getD, List.getElem?_eq_getElem hk]⟩
/-- of right properties a rune's class is one of five -/
theorem ofM_range {t : Nat → List Rg} (h : (chk7 t).2 = 0) (r : Int) : 1 ≤ ofM t r ∧ ofM t r ≤ 5 := by
  unfold ofM
  by_cases e : whyM t r = 2
  · rw [if_pos e]
    have hb : hasB (t 0) r = true := by
      cases hc : lineB t r 1 with
      | true => exact hc
      | false =>
        exfalso
        unfold whyM at e
        have e1 : firstFrom (lineB t r) 9 0 = 1 := by omega
        by_cases h0 : lineB t r 0 = true
        · rw [firstFrom_yes h0] at e1; omega
        · rw [firstFrom_no (by simpa using h0), firstFrom_no hc] at e1
          have e2 : firstFrom (lineB t r) 7 2 = 1 := e1
          have := (firstFrom_le (lineB t r) 7 2).1
          omega
    unfold hasB at hb
    obtain ⟨v, hv⟩ := Option.isSome_iff_exists.1 hb
    unfold valM
    rw [hv]
    obtain ⟨j, hj, rfl⟩ := find_val hv
    have hk := (right7 h 0 (by omega)).2.2.2 j hj
    unfold kindAt at hk
    split at hk
    · omega
    · rename_i g
      have : mst 0 = 5 := rfl
      rw [this] at g
      show 1 ≤ ((t 0).getD j default).val ∧ _
      simp only [Option.getD_some]
      omega
  · rw [if_neg e]
    have := whyM_range t r
    rcases (by omega : whyM t r = 1 ∨ whyM t r = 3 ∨ whyM t r = 4 ∨ whyM t r = 5 ∨ whyM t r = 6 ∨ whyM t r = 7 ∨ whyM t r = 8 ∨ whyM t r = 9 ∨ whyM t r = 10) with q | q | q | q | q | q | q | q | q <;> rw [q] <;> decide
/-- properties of which four tables are taken out -/
def bare (t : Nat → List Rg) (i : Nat) : List Rg := if i = 0 ∨ i = 1 ∨ i = 2 ∨ i = 6 then [] else t i
theorem hasB_nil (r : Int) : hasB [] r = false := rfl
theorem bare_of (t : Nat → List Rg) (r : Int) (h0 : 0 ≤ r) (h1 : r ≤ 127) : ofM (bare t) r = 1 ↔ plainR r = true := by
  have l0 : lineB (bare t) r 0 = false := by
    show (!rightR r) = false
    unfold rightR
    rw [decide_eq_true (by omega)]; rfl
  have l1 : lineB (bare t) r 1 = false := rfl
  have l2 : lineB (bare t) r 2 = false := rfl
  have l4 : lineB (bare t) r 4 = false := rfl
  have l8 : lineB (bare t) r 8 = false := rfl
  cases hp : plainR r with
  | true =>
    have hw : whyM (bare t) r = 4 := why_is (j := 3) (fun i hi => by rcases (by omega : i = 0 ∨ i = 1 ∨ i = 2) with rfl | rfl | rfl <;> assumption) hp (by omega)
    unfold ofM; rw [hw]; simp
  | false =>
    have l3 : lineB (bare t) r 3 = false := hp
    have hw : whyM (bare t) r = 6 ∨ whyM (bare t) r = 7 ∨ whyM (bare t) r = 8 ∨ whyM (bare t) r = 10 := by
      unfold whyM
      rw [firstFrom_no l0, firstFrom_no l1, firstFrom_no l2, firstFrom_no l3, firstFrom_no l4]
      by_cases q5 : lineB (bare t) r 5 = true
      · rw [firstFrom_yes q5]; omega
      rw [firstFrom_no (by simpa using q5)]
      by_cases q6 : lineB (bare t) r 6 = true
      · rw [firstFrom_yes q6]; omega
      rw [firstFrom_no (by simpa using q6)]
      by_cases q7 : lineB (bare t) r 7 = true
      · rw [firstFrom_yes q7]; omega
      rw [firstFrom_no (by simpa using q7), firstFrom_no l8]
      simp [firstFrom]
    unfold ofM
    rcases hw with q | q | q | q <;> rw [q] <;> simp
/-- how many of the first n runes have the class k -/
def cntM (t : Nat → List Rg) (l : List Int) : Nat → Int → Nat
  | 0, _ => 0
  | n + 1, k => cntM t l n k + (if ofM t (l.getD n 0) = k then 1 else 0)
theorem cntM_le (t : Nat → List Rg) (l : List Int) (k : Int) : ∀ n, cntM t l n k ≤ n
  | 0 => Nat.le_refl _
  | n + 1 => by have := cntM_le t l k n; unfold cntM; split <;> omega
/-- the first of the runes with a class, among the first n, from the place k on; -1: none -/
def firstM (t : Nat → List Rg) (l : List Int) (class_ : Int) : Int := match (List.range l.length).find? (fun i => ofM t (l.getD i 0) == class_) with
  | some i => (i : Int)
  | none => -1
theorem firstM_at {t : Nat → List Rg} {l : List Int} {c : Int} {k : Nat} (hk : k < l.length) (h0 : ∀ i, i < k → ofM t (l.getD i 0) ≠ c) (h : ofM t (l.getD k 0) = c) : firstM t l c = k := by
  have e : (List.range l.length).find? (fun i => ofM t (l.getD i 0) == c) = some k := by
    rw [List.find?_eq_some_iff_getElem]
    refine ⟨by simpa using h, k, by simpa using hk, by simp, fun j hj => by have := h0 j hj; simpa using this⟩
  unfold firstM; rw [e]
theorem firstM_none {t : Nat → List Rg} {l : List Int} {c : Int} (h0 : ∀ i, i < l.length → ofM t (l.getD i 0) ≠ c) : firstM t l c = -1 := by
  have e : (List.range l.length).find? (fun i => ofM t (l.getD i 0) == c) = none := by
    rw [List.find?_eq_none]
    intro x hx
    have := h0 x (by simpa using hx)
    simpa using this
  unfold firstM; rw [e]
end Go.Proofs.YtlnehhfljjeifaaDoor
namespace Go.Proofs.YtlnehhfljjeifaaDoor

/-- a rune's rule -/
def ruleM (r : Int) : Nat :=
  if r = 8204 then 1 else if r = 8205 then 2 else if r = 183 then 3 else if r = 885 then 4 else if r = 1523 ∨ r = 1524 then 5 else if r = 12539 then 6
  else if 1632 ≤ r ∧ r ≤ 1641 then 7 else if 1776 ≤ r ∧ r ≤ 1785 then 8 else 0
theorem ruleM_le (r : Int) : ruleM r ≤ 8 := by unfold ruleM; (repeat' split) <;> omega
/-- is there a rune at a place, and is it what is asked for? -/
def standsB (l : List Int) (i : Int) (g : Int → Bool) : Bool := decide (0 ≤ i) && (decide (i < (l.length : Int)) && g (l.getD i.toNat 0))
theorem standsB_lt {l : List Int} {i : Int} (g : Int → Bool) (h : i < 0) : standsB l i g = false := by
  unfold standsB; rw [decide_eq_false (by omega)]; rfl
theorem standsB_ge {l : List Int} {i : Int} (g : Int → Bool) (h : (l.length : Int) ≤ i) : standsB l i g = false := by
  have e : decide (i < (l.length : Int)) = false := decide_eq_false (by omega)
  unfold standsB; rw [e]; simp
theorem standsB_in {l : List Int} {k : Nat} (g : Int → Bool) (h : k < l.length) : standsB l k g = g (l.getD k 0) := by
  unfold standsB; rw [decide_eq_true (by omega), decide_eq_true (by omega)]; simp
/-- the first place at which it holds; -1: none -/
def idxB (l : List Int) (g : Int → Bool) : Int := match (List.range l.length).find? (fun i => g (l.getD i 0)) with
  | some i => (i : Int)
  | none => -1
theorem idxB_at {l : List Int} {g : Int → Bool} {k : Nat} (hk : k < l.length) (h0 : ∀ i, i < k → g (l.getD i 0) = false) (h : g (l.getD k 0) = true) : idxB l g = k := by
  have e : (List.range l.length).find? (fun i => g (l.getD i 0)) = some k := by
    rw [List.find?_eq_some_iff_getElem]
    refine ⟨h, k, by simpa using hk, by simp, fun j hj => by have := h0 j hj; simpa using this⟩
  unfold idxB; rw [e]
theorem idxB_none {l : List Int} {g : Int → Bool} (h0 : ∀ i, i < l.length → g (l.getD i 0) = false) : idxB l g = -1 := by
  have e : (List.range l.length).find? (fun i => g (l.getD i 0)) = none := by
    rw [List.find?_eq_none]
    intro x hx
    have := h0 x (by simpa using hx)
    simpa using this
  unfold idxB; rw [e]
/-- does it hold of one of them? -/
def anyB (l : List Int) (g : Int → Bool) : Bool := decide (0 ≤ idxB l g)
theorem anyB_of {l : List Int} {g : Int → Bool} {k : Nat} (hk : k < l.length) (h : g (l.getD k 0) = true) : anyB l g = true := by
  unfold anyB idxB
  cases e : (List.range l.length).find? (fun i => g (l.getD i 0)) with
  | some i => simp
  | none =>
    rw [List.find?_eq_none] at e
    exact absurd h (e k (by simpa using hk))
theorem anyB_ex {l : List Int} {g : Int → Bool} (h : anyB l g = true) : ∃ k, k < l.length ∧ g (l.getD k 0) = true := by
  unfold anyB idxB at h
  cases e : (List.range l.length).find? (fun i => g (l.getD i 0)) with
  | some i =>
    obtain ⟨h1, k, hk, e1, -⟩ := List.find?_eq_some_iff_getElem.1 e
    simp at e1 hk
    subst e1
    exact ⟨k, hk, h1⟩
  | none => rw [e] at h; simp at h
theorem idxB_range (l : List Int) (g : Int → Bool) : -1 ≤ idxB l g ∧ idxB l g ≤ l.length := by
  unfold idxB
  cases e : (List.range l.length).find? (fun i => g (l.getD i 0)) with
  | some i =>
    obtain ⟨h1, k, hk, e1, -⟩ := List.find?_eq_some_iff_getElem.1 e
    simp at e1 hk
    subst e1
    simp only; omega
  | none => simp only; omega
def isClass9 (cl : List Rg) (r : Int) : Bool := classOf cl r == 9
def isL (r : Int) : Bool := r == 108
def isScr (sc : List Rg) (ks : List Int) (r : Int) : Bool := ks.any fun k => valM sc r == k
def isRule (k : Nat) (r : Int) : Bool := ruleM r == k
/-- DOES A RUNE's RULE HOLD? (of the rules but the first) -/
def holdsM (cl sc : List Rg) (l : List Int) (i : Nat) : Bool :=
  if ruleM (l.getD i 0) = 2 then standsB l ((i : Int) - 1) (isClass9 cl)
  else if ruleM (l.getD i 0) = 3 then standsB l ((i : Int) - 1) isL && standsB l ((i : Int) + 1) isL
  else if ruleM (l.getD i 0) = 4 then standsB l ((i : Int) + 1) (isScr sc [1])
  else if ruleM (l.getD i 0) = 5 then standsB l ((i : Int) - 1) (isScr sc [2])
  else if ruleM (l.getD i 0) = 6 then anyB l (isScr sc [3, 4, 5])
  else if ruleM (l.getD i 0) = 7 ∨ ruleM (l.getD i 0) = 8 then !(anyB l (isRule 7)) || !(anyB l (isRule 8))
  else false
/-- where the rules of all digits hold, they are of one kind -/
theorem digits_one {cl sc : List Rg} {l : List Int} (i j : Nat) (hi : i < l.length) (hj : j < l.length) (h7 : ruleM (l.getD i 0) = 7) (h8 : ruleM (l.getD j 0) = 8) (h : holdsM cl sc l i = true) : False := by
  unfold holdsM at h
  rw [h7] at h
  have a7 : anyB l (isRule 7) = true := anyB_of hi (by unfold isRule; rw [h7]; rfl)
  have a8 : anyB l (isRule 8) = true := anyB_of hj (by unfold isRule; rw [h8]; rfl)
  rw [a7, a8] at h
  simp at h
theorem getD_app {l m : List Int} {i : Nat} (h : i < l.length) : (l ++ m).getD i 0 = l.getD i 0 := by
  rw [List.getD_eq_getElem?_getD, List.getD_eq_getElem?_getD, List.getElem?_append_left h]
/-- what stands behind does not matter to the rules 2 and 5 -/
theorem behind_same (cl sc : List Rg) (l m : List Int) (i : Nat) (hi : i < l.length) (h : ruleM (l.getD i 0) = 2 ∨ ruleM (l.getD i 0) = 5) : holdsM cl sc (l ++ m) i = holdsM cl sc l i := by
  have e := getD_app (m := m) hi
  have key : ∀ g, standsB (l ++ m) ((i : Int) - 1) g = standsB l ((i : Int) - 1) g := fun g => by
    rcases i with _ | k
    · rw [standsB_lt g (by omega), standsB_lt g (by omega)]
    · have e2 : ((k + 1 : Nat) : Int) - 1 = (k : Int) := by omega
      rw [e2, standsB_in g (by rw [List.length_append]; omega), standsB_in g (by omega), getD_app (by omega)]
  unfold holdsM
  rw [e]
  rcases h with h | h <;> rw [h]
  · rw [if_pos rfl, if_pos rfl, key]
  · simp [key]
end Go.Proofs.YtlnehhfljjeifaaDoor
namespace Go.Proofs.YtlnehhfljjeifaaDoor
open Go.RowKit

/-- the value that is properties -/
def PV (a : Nat → Option Addr) (c : Nat → Nat) (t : Nat → List Rg) : Value := .agg #[.slice (a 0) (t 0).length (c 0), .slice (a 1) (t 1).length (c 1), .slice (a 2) (t 2).length (c 2), .slice (a 3) (t 3).length (c 3), .slice (a 4) (t 4).length (c 4), .slice (a 5) (t 5).length (c 5), .slice (a 6) (t 6).length (c 6), .slice (a 7) (t 7).length (c 7), .slice (a 8) (t 8).length (c 8), .slice (a 9) (t 9).length (c 9), .slice (a 10) (t 10).length (c 10)]
/-- the eleven tables lie in memory -/
def PT (w : World) (a : Nat → Option Addr) (c : Nat → Nat) (t : Nat → List Rg) : Prop := ∀ i, i < 11 → Tab w (.slice (a i) (t i).length (c i)) (t i)
theorem PT.below {w w' : World} {a : Nat → Option Addr} {c : Nat → Nat} {t : Nat → List Rg} (h : PT w a c t) (hb : Below w.heap.size w w') : PT w' a c t := fun i hi => (h i hi).below hb
/-- a block that holds properties -/
def PB (w : World) (b : Nat) (a : Nat → Option Addr) (c : Nat → Nat) (t : Nat → List Rg) : Prop := ∀ i, i < 11 → w.cell? ⟨b, i, none⟩ = some (.slice (a i) (t i).length (c i))
theorem PB.lt {w : World} {b : Nat} {a : Nat → Option Addr} {c : Nat → Nat} {t : Nat → List Rg} (h : PB w b a c t) : b < w.heap.size := lt_of_cell (h 0 (by omega))
theorem PB.below {w w' : World} {b : Nat} {a : Nat → Option Addr} {c : Nat → Nat} {t : Nat → List Rg} (h : PB w b a c t) (hb : Below w.heap.size w w') : PB w' b a c t := fun i hi => (hb.cell (p := ⟨b, i, none⟩) h.lt).trans (h i hi)
theorem PB.below' {w w' : World} {b B : Nat} {a : Nat → Option Addr} {c : Nat → Nat} {t : Nat → List Rg} (h : PB w b a c t) (hb : Below B w w') (hB : b < B) : PB w' b a c t := fun i hi => (hb.cell (p := ⟨b, i, none⟩) hB).trans (h i hi)
theorem prop_new (w : World) (a : Nat → Option Addr) (c : Nat → Nat) (t : Nat → List Rg) : PB (w.alloc (.cells #[.slice (a 0) (t 0).length (c 0), .slice (a 1) (t 1).length (c 1), .slice (a 2) (t 2).length (c 2), .slice (a 3) (t 3).length (c 3), .slice (a 4) (t 4).length (c 4), .slice (a 5) (t 5).length (c 5), .slice (a 6) (t 6).length (c 6), .slice (a 7) (t 7).length (c 7), .slice (a 8) (t 8).length (c 8), .slice (a 9) (t 9).length (c 9), .slice (a 10) (t 10).length (c 10)] 28)) w.heap.size a c t := by
  intro i hi
  rcases (by omega : i = 0 ∨ i = 1 ∨ i = 2 ∨ i = 3 ∨ i = 4 ∨ i = 5 ∨ i = 6 ∨ i = 7 ∨ i = 8 ∨ i = 9 ∨ i = 10) with rfl | rfl | rfl | rfl | rfl | rfl | rfl | rfl | rfl | rfl | rfl <;> rw [World.cell?_alloc_new] <;> rfl
/-- a block of properties is laid -/
theorem prop_box (w : World) (a : Nat → Option Addr) (c : Nat → Nat) (t : Nat → List Rg) : ∃ W0, w.alloc (.cells #[.slice (a 0) (t 0).length (c 0), .slice (a 1) (t 1).length (c 1), .slice (a 2) (t 2).length (c 2), .slice (a 3) (t 3).length (c 3), .slice (a 4) (t 4).length (c 4), .slice (a 5) (t 5).length (c 5), .slice (a 6) (t 6).length (c 6), .slice (a 7) (t 7).length (c 7), .slice (a 8) (t 8).length (c 8), .slice (a 9) (t 9).length (c 9), .slice (a 10) (t 10).length (c 10)] 28) = W0 ∧ W0.heap.size = w.heap.size + 1 ∧ Below w.heap.size w W0 ∧ PB W0 w.heap.size a c t :=
  ⟨_, rfl, by rw [World.size_alloc], (Below.refl _ w).alloc (Nat.le_refl _) _, prop_new w a c t⟩
/-- what is asked of a table that is searched -/
structure Ok (l : List Rg) : Prop where
  len : l.length ≤ 2000
  ap : Apart l
  ri : Rises l
theorem ok_nil : Ok [] := ⟨by simp, fun i j h1 h2 => by simp at h2, fun i j h1 h2 => by simp at h2⟩
theorem right7_ok {t : Nat → List Rg} (h : (chk7 t).2 = 0) : ∀ i, i < 11 → Ok (t i) := fun i hi => ⟨(right7 h i hi).1, (right7 h i hi).2.1, (right7 h i hi).2.2.1⟩
def wid7 (r : Int) : Int := if r < 0 ∨ 1114111 < r then 0 else if r < 128 then 1 else if r < 2048 then 2 else if 55296 ≤ r ∧ r ≤ 57343 then 0 else if r < 65536 then 3 else 4
theorem wid7_right (r : Int) : decide (0 < wid7 r) = rightR r := by
  unfold wid7 rightR; rw [decide_eq_decide]; (repeat' split) <;> omega
set_option maxHeartbeats 400000 in
theorem width7_any (r : Int) (w : World) :
    Calls Tryd.prog 62 #[.int .i32 r] w fun e w' => e = .returned (.int .i64 (wid7 r)) ∧ w = w' := by
  go_enter Tryd.func62, Tryd.ntmps62
  go_wp2
  all_goals go_ret
  all_goals refine ⟨ret_int ?_, rfl⟩
  all_goals (unfold wid7; (repeat' split) <;> omega)
set_option maxHeartbeats 400000 in
theorem utfRight_any (r : Int) (w : World) :
    Calls Tryd.prog 42 #[.int .i32 r] w fun e w' => e = .returned (.bool (rightR r)) ∧ w = w' := by
  rw [← wid7_right]
  have HW := Hid.mk' (width7_any r w)
  generalize wid7 r = x at *
  go_enter Tryd.func42, Tryd.ntmps42
  go_wp2_with fail
  refine HW.out.mono ?_
  rintro e w' ⟨rfl, rfl⟩
  go_wp2
  go_ret
  exact ⟨rfl, rfl⟩
set_option maxHeartbeats 1000000 in
theorem value_any (v : Value) (l : List Rg) (r : Int) (w : World) (hT : Tab w v l) (ho : Ok l) :
    Calls Tryd.prog 52 #[v, .int .i32 r] w fun e w' => e = .returned (.int .i64 (valM l r)) ∧ Below w.heap.size w w' := by
  have HF := Hid.mk' (find_any v l r w hT (by have := ho.len; omega) ho.ri ho.ap)
  obtain ⟨a, cap, rfl, -⟩ := hT
  unfold valM
  unfold foundV at HF
  generalize find l r = x at *
  clear ho
  go_enter Tryd.func52, Tryd.ntmps52
  go_wp2_with fail
  refine HF.out.mono ?_
  rintro e w' ⟨rfl, hb⟩
  go_wp2
  go_ret
  exact ⟨rfl, hb⟩
end Go.Proofs.YtlnehhfljjeifaaDoor
namespace Go.Proofs.YtlnehhfljjeifaaDoor
open Go.RowKit Go.Shelf

set_option maxHeartbeats 2000000 in
theorem rule_any (r : Int) (w : World) :
    Calls Tryd.prog 8 #[.int .i32 r] w fun e w' => e = .returned (.int .i64 (ruleM r)) ∧ w = w' := by
  go_enter Tryd.func8, Tryd.ntmps8
  go_wp2
  all_goals go_ret
  all_goals refine ⟨ret_int ?_, rfl⟩
  all_goals (try simp only [beq_iff_eq, beq_eq_false_iff_ne, ne_eq] at *)
  all_goals first | (unfold ruleM; (repeat' split) <;> omega) | (subst_vars; rfl)
/-- what is asked of a function value that tells of a rune whether it is what is meant -/
def Tells (F : Nat) (lb : Array Value) (g : Int → Bool) (w : World) : Prop :=
  ∀ W r, Below w.heap.size w W → Calls Tryd.prog F (#[.int .i32 r] ++ lb) W fun e w' => e = .returned (.bool (g r)) ∧ Below W.heap.size W w'
theorem Tells.below {F : Nat} {lb : Array Value} {g : Int → Bool} {w w' : World} (h : Tells F lb g w) (hb : Below w.heap.size w w') : Tells F lb g w' :=
  fun W r hW => h W r (hb.trans (hW.mono hb.size))
set_option maxHeartbeats 2000000 in
theorem stands_any (F : Nat) (lb : Array Value) (g : Int → Bool) (v : Value) (l : List Int) (i : Int) (w : World) (hR : Runes w v l) (hl : l.length ≤ 2147483648)
    (eg : ∀ args w, (callFunc F args).run Tryd.prog w = .ok (.enter F args) w) (hp : Tells F lb g w) :
    Calls Tryd.prog 15 #[v, .int .i64 i, .func (.func F) #[] lb] w fun e w' => e = .returned (.bool (standsB l i g)) ∧ Below w.heap.size w w' := by
  obtain ⟨a, cap, rfl, hC⟩ := hR
  have HP := Hid.mk' hp
  rcases (by omega : i < 0 ∨ (l.length : Int) ≤ i ∨ (0 ≤ i ∧ i < (l.length : Int))) with h | h | ⟨h1, h2⟩
  · rw [standsB_lt g h]
    have hd : decide (0 ≤ i) = false := decide_eq_false (by omega)
    clear hp
    go_enter Tryd.func15, Tryd.ntmps15
    go_wp2
    go_ret
    exact ⟨rfl, Below.refl _ _⟩
  · rw [standsB_ge g h]
    have hd : decide (0 ≤ i) = true := decide_eq_true (by omega)
    have hd2 : decide (i < (l.length : Int)) = false := decide_eq_false (by omega)
    clear hp
    go_enter Tryd.func15, Tryd.ntmps15
    go_wp2
    go_ret
    exact ⟨rfl, Below.refl _ _⟩
  · obtain ⟨k, rfl⟩ : ∃ k : Nat, i = k := ⟨i.toNat, by omega⟩
    have hk : k < l.length := by omega
    rw [standsB_in g hk]
    obtain ⟨b, off, rfl, ck⟩ := hC k hk
    have hd : decide ((0 : Int) ≤ (k : Int)) = true := decide_eq_true (by omega)
    have hd2 : decide ((k : Int) < (l.length : Int)) = true := decide_eq_true (by omega)
    generalize l.getD k 0 = x at *
    have HK := Hid.mk' (HP.out w x (Below.refl _ _))
    clear hp hC
    go_enter Tryd.func15, Tryd.ntmps15
    go_wp2_with fail
    refine HK.out.mono ?_
    rintro e w1 ⟨rfl, hb⟩
    go_wp2
    go_ret
    exact ⟨rfl, hb⟩
set_option maxRecDepth 20000 in
set_option maxHeartbeats 2000000 in
theorem indexFunc_any (F : Nat) (lb : Array Value) (g : Int → Bool) (v : Value) (l : List Int) (w : World) (hR : Runes w v l) (hl : l.length ≤ 2147483648)
    (eg : ∀ args w, (callFunc F args).run Tryd.prog w = .ok (.enter F args) w) (hp : Tells F lb g w) :
    Calls Tryd.prog 33 #[v, .func (.func F) #[] lb] w fun e w' => e = .returned (.int .i64 (idxB l g)) ∧ Below w.heap.size w w' := by
  obtain ⟨a, cap, rfl, hC⟩ := hR
  have HC : Hid (∀ W, Below w.heap.size w W → ∀ j, j < l.length → ∃ b off, a = some ⟨b, off, none⟩ ∧ W.cell? ⟨b, off + j, none⟩ = some (.int .i32 (l.getD j 0))) := fun W hb j hj => by
    obtain ⟨b, off, rfl, hc⟩ := hC j hj
    exact ⟨b, off, rfl, (hb.cell (p := ⟨b, off + j, none⟩) (lt_of_cell hc)).trans hc⟩
  have HP := Hid.mk' hp
  have HS : Hid (∀ k, k < l.length → (∀ j, j < k → g (l.getD j 0) = false) → g (l.getD k 0) = true → idxB l g = k) := fun k hk h1 h2 => idxB_at hk h1 h2
  have HN : Hid ((∀ j, j < l.length → g (l.getD j 0) = false) → idxB l g = -1) := fun h => idxB_none h
  generalize idxB l g = R at *
  clear hC hp
  go_enter Tryd.func33, Tryd.ntmps33
  go_wp2
  go_loopw [8] (fun x wr => ∃ k : Nat, k ≤ l.length ∧ x = .int .i64 k ∧ Hid (∀ j, j < k → g (l.getD j 0) = false) ∧ Below w.heap.size w wr) (fun x _ => l.length - (intOf x).toNat)
  case atStart => exact ⟨0, Nat.zero_le _, rfl, fun j hj => by omega, Below.refl _ _⟩
  case round =>
    obtain ⟨k, hk, rfl, HA, hb⟩ := hrel
    by_cases hlt : k < l.length
    · obtain ⟨b, off, rfl, ck⟩ := HC.out wr hb k hlt
      have HK := Hid.mk' (HP.out wr (l.getD k 0) hb)
      have HX : Hid (g (l.getD k 0) = false → ∀ j, j < k + 1 → g (l.getD j 0) = false) := fun e j hj => by
        rcases Nat.lt_or_ge j k with q | q
        · exact HA.out j q
        · obtain rfl : j = k := by omega
          exact e
      have HY : Hid (g (l.getD k 0) = true → R = k) := fun e => HS.out k hlt HA.out e
      generalize l.getD k 0 = x at *
      have hklz : (k : Int) < (l.length : Int) := by omega
      cases hg : g x
      · rw [hg] at HK
        have HE2 := Hid.mk' (HX.out hg)
        clear hg HX HY
        go_wp2_with fail
        refine HK.out.mono ?_
        rintro e w1 ⟨rfl, hb1⟩
        go_wp2
        go_roundw
        case rel => exact ⟨k + 1, by omega, by go_num, HE2, hb.trans (hb1.mono hb.size)⟩
        case measure => simp [intOf]; omega
      · rw [hg] at HK
        have HR := Hid.mk' (HY.out hg)
        clear hg HX HY
        go_wp2_with fail
        refine HK.out.mono ?_
        rintro e w1 ⟨rfl, hb1⟩
        go_wp2
        go_ret
        exact ⟨ret_int HR.out.symm, hb.trans (hb1.mono hb.size)⟩
    · obtain rfl : k = l.length := by omega
      have HR := Hid.mk' (HN.out HA.out)
      go_wp2
      go_ret
      exact ⟨ret_int HR.out.symm, hb⟩
set_option maxHeartbeats 1000000 in
theorem containsFunc_any (F : Nat) (lb : Array Value) (g : Int → Bool) (v : Value) (l : List Int) (w : World) (hR : Runes w v l) (hl : l.length ≤ 2147483648)
    (eg : ∀ args w, (callFunc F args).run Tryd.prog w = .ok (.enter F args) w) (hp : Tells F lb g w) :
    Calls Tryd.prog 20 #[v, .func (.func F) #[] lb] w fun e w' => e = .returned (.bool (anyB l g)) ∧ Below w.heap.size w w' := by
  have HI := Hid.mk' (indexFunc_any F lb g v l w hR hl eg hp)
  obtain ⟨a, cap, rfl, -⟩ := hR
  unfold anyB
  have hrg := idxB_range l g
  generalize idxB l g = x at *
  clear hp eg
  go_enter Tryd.func20, Tryd.ntmps20
  go_wp2_with fail
  refine HI.out.mono ?_
  rintro e w1 ⟨rfl, hb⟩
  go_wp2
  go_ret
  exact ⟨rfl, hb⟩
end Go.Proofs.YtlnehhfljjeifaaDoor

/-
  What is proved here: plain mathematics of tables (no program): what is joined, and those of one value.
-/
import Derived.Test.YtlnehhfljjeifaaGreatDoorLawF
namespace Go.Proofs.YtlnehhfljjeifaaGreatDoor

/-- a table, said of its pairs -/
def Tbl (l : List Rg) : Prop := (∀ r ∈ l, r.may = true) ∧ l.Pairwise (fun a b => a.hi < b.lo)
theorem getD_mem {l : List Rg} {i : Nat} (h : i < l.length) : l.getD i default ∈ l := by
  simp [List.getD, List.getElem?_eq_getElem h]
theorem getD_eq {l : List Rg} {i : Nat} (h : i < l.length) : l.getD i default = l[i] := by
  simp [List.getD, List.getElem?_eq_getElem h]
theorem tbl_of {l : List Rg} (hm : Mays l) (ha : Apart l) : Tbl l := by
  refine ⟨fun r hr => ?_, List.pairwise_iff_getElem.2 fun i j hi hj hij => ?_⟩
  · obtain ⟨k, hk, rfl⟩ := List.mem_iff_getElem.1 hr
    have := hm k hk
    rwa [getD_eq hk] at this
  · have := ha i j hij hj
    rwa [getD_eq hi, getD_eq hj] at this
theorem tbl_right {l : List Rg} (h : Tbl l) (hl : l.length ≤ 2000) : (chk l).2 = 0 := by
  have hR : Right l := (right_iff l).2 ⟨hl, fun i hi => by
    unfold codeAt
    rw [if_neg, if_neg]
    · rintro ⟨h0, h1⟩
      have := List.pairwise_iff_getElem.1 h.2 (i - 1) i (by omega) hi (by omega)
      rw [getD_eq hi, getD_eq (show i - 1 < l.length by omega)] at h1
      omega
    · rw [h.1 _ (getD_mem hi)]; simp⟩
  rw [hR]
theorem right_tbl {l : List Rg} (h : (chk l).2 = 0) : Tbl l := tbl_of (right_parts h).2.1 (right_parts h).2.2.1
theorem find_append (a b : List Rg) (x : Int) : find (a ++ b) x = (find a x).or (find b x) := by
  unfold find
  rw [List.find?_append]
  cases a.find? fun y => decide (y.lo ≤ x) && decide (x ≤ y.hi) <;> rfl
theorem find_one (r : Rg) (x : Int) : find [r] x = if r.lo ≤ x ∧ x ≤ r.hi then some r.val else none := by
  unfold find
  by_cases h : r.lo ≤ x ∧ x ≤ r.hi
  · rw [if_pos h, List.find?_cons_of_pos (by simp [h])]; rfl
  · rw [if_neg h, List.find?_cons_of_neg (by simpa using h)]; rfl
/-- how many runes all have -/
def sum (l : List Rg) : Int := (l.map fun r => r.hi - r.lo + 1).sum
theorem sum_append (a b : List Rg) : sum (a ++ b) = sum a + sum b := by simp [sum]
theorem sum_one (r : Rg) : sum [r] = r.hi - r.lo + 1 := by simp [sum]

theorem sumTo_take (l : List Rg) : ∀ n, n ≤ l.length → sumTo l n = sum (l.take n) := by
  intro n
  induction n with
  | zero => intro _; rfl
  | succ n ih =>
    intro h
    unfold sumTo
    rw [ih (by omega), List.take_succ_eq_append_getElem (by omega), getD_eq (show n < l.length by omega)]
    rw [sum_append, sum_one]
theorem sumTo_all (l : List Rg) : sumTo l l.length = sum l := by rw [sumTo_take l _ (Nat.le_refl _), List.take_length]
/-- does r go on where q ends? -/
def goesOn (r q : Rg) : Bool := decide (r.lo = q.hi + 1) && decide (r.val = q.val)
theorem goesOn_iff (r q : Rg) : goesOn r q = true ↔ r.lo = q.hi + 1 ∧ r.val = q.val := by simp [goesOn]
/-- no two that follow one another could be one -/
def NJ (l : List Rg) : Prop := ∀ i, 0 < i → i < l.length → goesOn (l.getD i default) (l.getD (i - 1) default) = false
/-- what was joined so far, of pre -/
structure Joined (acc pre : List Rg) : Prop where
  tbl : Tbl acc
  nj : NJ acc
  find : ∀ x, find acc x = find pre x
  sum : sum acc = sum pre
  len : acc.length ≤ pre.length
  last : ∀ r : Rg, (∀ q ∈ pre, q.hi < r.lo) → ∀ q ∈ acc, q.hi < r.lo
theorem joined_nil : Joined [] [] := ⟨⟨by simp, List.Pairwise.nil⟩, fun i h1 h2 => by simp at h2, fun _ => rfl, rfl, Nat.le_refl _, fun r _ q hq => by simp at hq⟩
theorem getD_snoc_last (a : List Rg) (r : Rg) : (a ++ [r]).getD a.length default = r := by simp [List.getD]
theorem getD_snoc_lt (a : List Rg) (r : Rg) (i : Nat) (h : i < a.length) : (a ++ [r]).getD i default = a.getD i default := by
  simp [List.getD, List.getElem?_append_left h]
/-- pushed behind -/
theorem joined_push {acc pre : List Rg} {r : Rg} (h : Joined acc pre) (hr : r.may = true) (hp : ∀ q ∈ pre, q.hi < r.lo) (hn : acc = [] ∨ goesOn r (acc.getD (acc.length - 1) default) = false) : Joined (acc ++ [r]) (pre ++ [r]) := by
  refine ⟨⟨?_, ?_⟩, ?_, ?_, ?_, ?_, ?_⟩
  · intro q hq
    rcases List.mem_append.1 hq with h1 | h1
    · exact h.tbl.1 q h1
    · simp at h1; rw [h1]; exact hr
  · rw [List.pairwise_append]
    refine ⟨h.tbl.2, List.pairwise_singleton _ _, fun a ha b hb => ?_⟩
    simp at hb; subst hb
    exact h.last b hp a ha
  · intro i h0 hi
    simp at hi
    rcases Nat.lt_or_ge i acc.length with g | g
    · rw [getD_snoc_lt _ _ _ g, getD_snoc_lt _ _ _ (by omega)]; exact h.nj i h0 g
    · obtain rfl : i = acc.length := by omega
      rw [getD_snoc_last, getD_snoc_lt _ _ _ (by omega)]
      rcases hn with rfl | hn
      · simp at h0
      · exact hn
  · intro x; rw [find_append, find_append, h.find]
  · rw [sum_append, sum_append, h.sum]
  · have := h.len; simp; omega
  · intro s hs q hq
    rcases List.mem_append.1 hq with h1 | h1
    · exact h.last s (fun z hz => hs z (by simp [hz])) q h1
    · simp at h1; subst h1
      exact hs q (by simp)
/-- the last made longer -/
theorem joined_grow {acc pre : List Rg} {q r : Rg} (h : Joined (acc ++ [q]) pre) (hr : r.may = true) (hg : goesOn r q = true) : Joined (acc ++ [⟨q.lo, r.hi, q.val⟩]) (pre ++ [r]) := by
  obtain ⟨g1, g2⟩ := (goesOn_iff r q).1 hg
  have hq := (q.may_iff).1 (h.tbl.1 q (by simp))
  have hr' := (r.may_iff).1 hr
  have hp2 := List.pairwise_append.1 h.tbl.2
  refine ⟨⟨?_, ?_⟩, ?_, ?_, ?_, ?_, ?_⟩
  · intro z hz
    rcases List.mem_append.1 hz with h1 | h1
    · exact h.tbl.1 z (by simp [h1])
    · simp at h1; subst h1; rw [Rg.may_iff]; simp; omega
  · rw [List.pairwise_append]
    refine ⟨hp2.1, List.pairwise_singleton _ _, fun a ha b hb => ?_⟩
    simp at hb; subst hb
    exact hp2.2.2 a ha q (by simp)
  · intro i h0 hi
    simp at hi
    rcases Nat.lt_or_ge i acc.length with g | g
    · rw [getD_snoc_lt _ _ _ g, getD_snoc_lt _ _ _ (by omega)]
      have := h.nj i h0 (by simp; omega)
      rwa [getD_snoc_lt _ _ _ g, getD_snoc_lt _ _ _ (by omega)] at this
    · obtain rfl : i = acc.length := by omega
      have := h.nj acc.length h0 (by simp)
      rw [getD_snoc_last, getD_snoc_lt _ _ _ (by omega)] at this
      rw [getD_snoc_last, getD_snoc_lt _ _ _ (by omega)]
      exact this
  · intro x
    rw [find_append pre, ← h.find, find_append, find_append]
    cases find acc x with
    | some v => rfl
    | none =>
      simp only [Option.none_or, find_one]
      by_cases h1 : q.lo ≤ x ∧ x ≤ q.hi
      · rw [if_pos h1, if_pos (by omega)]; rfl
      · rw [if_neg h1]
        by_cases h2 : r.lo ≤ x ∧ x ≤ r.hi
        · rw [if_pos h2, if_pos (by omega), g2]; rfl
        · rw [if_neg h2, if_neg (by omega)]; rfl
  · rw [sum_append pre, ← h.sum, sum_append, sum_append, sum_one, sum_one, sum_one]; simp; omega
  · have := h.len; simp at this ⊢; omega
  · intro s hs z hz
    rcases List.mem_append.1 hz with h1 | h1
    · have hrs := hs r (by simp)
      have := hp2.2.2 z h1 q (by simp)
      omega
    · simp at h1; subst h1
      exact hs r (by simp)
/-- those of one value -/
def onlyL (l : List Rg) (v : Int) : List Rg := l.filter fun r => decide (r.val = v)
theorem only_tbl {l : List Rg} (v : Int) (h : Tbl l) : Tbl (onlyL l v) :=
  ⟨fun r hr => h.1 r ((List.mem_filter.1 hr).1), h.2.sublist List.filter_sublist⟩
theorem only_find {l : List Rg} (v : Int) (h : Tbl l) (x : Int) : find (onlyL l v) x = if find l x = some v then some v else none := by
  induction l with
  | nil => rfl
  | cons r t ih =>
    have ht : Tbl t := ⟨fun q hq => h.1 q (by simp [hq]), (List.pairwise_cons.1 h.2).2⟩
    have hi := ih ht
    have e1 : find (r :: t) x = (find [r] x).or (find t x) := find_append [r] t x
    rw [e1, find_one]
    by_cases hx : r.lo ≤ x ∧ x ≤ r.hi
    · rw [if_pos hx]
      have hnone : find t x = none := (find_none t x).2 fun k hk hc => by
        have := (List.pairwise_cons.1 h.2).1 _ (getD_mem hk)
        omega
      have hn2 : find (onlyL t v) x = none := by rw [hi, hnone]; rfl
      by_cases hv : r.val = v
      · have e2 : onlyL (r :: t) v = r :: onlyL t v := by simp [onlyL, hv]
        rw [e2, show r :: onlyL t v = [r] ++ onlyL t v from rfl, find_append, find_one, if_pos hx]
        simp [hv]
      · have e2 : onlyL (r :: t) v = onlyL t v := by simp [onlyL, hv]
        rw [e2, hn2]
        simp [hv]
    · rw [if_neg hx, Option.none_or, ← hi]
      by_cases hv : r.val = v
      · have e2 : onlyL (r :: t) v = [r] ++ onlyL t v := by simp [onlyL, hv]
        rw [e2, find_append, find_one, if_neg hx]; rfl
      · have e2 : onlyL (r :: t) v = onlyL t v := by simp [onlyL, hv]
        rw [e2]
theorem onlyL_snoc (l : List Rg) (r : Rg) (v : Int) : onlyL (l ++ [r]) v = onlyL l v ++ (if r.val = v then [r] else []) := by
  unfold onlyL
  rw [List.filter_append]
  by_cases h : r.val = v <;> simp [h]
theorem take_snoc {l : List Rg} {k : Nat} (h : k < l.length) : l.take (k + 1) = l.take k ++ [l.getD k default] := by
  rw [List.take_succ_eq_append_getElem h, getD_eq h]
theorem tbl_head {l : List Rg} (h : Tbl l) {k : Nat} (hk : k < l.length) : ∀ q ∈ l.take k, q.hi < (l.getD k default).lo := by
  intro q hq
  obtain ⟨i, hi, rfl⟩ := List.mem_iff_getElem.1 hq
  have hi' : i < k := by simp at hi; omega
  have := List.pairwise_iff_getElem.1 h.2 i k (by omega) hk hi'
  rw [List.getElem_take, getD_eq hk]; exact this
end Go.Proofs.YtlnehhfljjeifaaGreatDoor

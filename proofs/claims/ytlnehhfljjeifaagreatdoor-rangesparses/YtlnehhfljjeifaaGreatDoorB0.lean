/-
  What is proved here: plain mathematics of building a table out of ranges in any order (no program).
-/
import Derived.Test.YtlnehhfljjeifaaGreatDoorJ0
namespace Go.Proofs.YtlnehhfljjeifaaGreatDoor

/-- the number of the first range that ends at x or above it -/
def reachN : List Rg → Int → Nat
  | [], _ => 0
  | q :: t, x => if q.hi < x then reachN t x + 1 else 0
theorem reachN_spec (t : List Rg) (x : Int) : reachN t x ≤ t.length ∧ (∀ k, k < reachN t x → (t.getD k default).hi < x) ∧ (reachN t x < t.length → x ≤ (t.getD (reachN t x) default).hi) := by
  induction t with
  | nil => simp [reachN]
  | cons q t ih =>
    unfold reachN
    split
    · rename_i h
      refine ⟨by simp; exact ih.1, fun k hk => ?_, fun hl => ?_⟩
      · cases k with
        | zero => simpa using h
        | succ k => simpa using ih.2.1 k (by omega)
      · simpa using ih.2.2 (by simpa using hl)
    · rename_i h
      refine ⟨Nat.zero_le _, fun k hk => by omega, fun _ => by simp; omega⟩
theorem reach_of {t : List Rg} (h : Rises t) (x : Int) : Reach t x (reachN t x) := by
  obtain ⟨h1, h2, h3⟩ := reachN_spec t x
  exact ⟨h1, h2, fun k hk hl => Int.le_trans (h3 (by omega)) (h _ k hk hl)⟩
theorem reach_unique {t : List Rg} {x : Int} {i j : Nat} (hi : Reach t x i) (hj : Reach t x j) : i = j := by
  rcases Nat.lt_trichotomy i j with g | g | g
  · have h1 := hj.2.1 i g
    have h2 := hi.2.2 i (Nat.le_refl _) (by have := hj.1; omega)
    omega
  · exact g
  · have h1 := hi.2.1 j g
    have h2 := hj.2.2 j (Nat.le_refl _) (by have := hi.1; omega)
    omega
/-- r put in at i -/
def insAt (t : List Rg) (i : Nat) (r : Rg) : List Rg := t.take i ++ r :: t.drop i
theorem insAt_len (t : List Rg) (i : Nat) (r : Rg) (h : i ≤ t.length) : (insAt t i r).length = t.length + 1 := by simp [insAt]; omega
/-- does the range number i share a rune with r? -/
def meets (t : List Rg) (i : Nat) (r : Rg) : Prop := i < t.length ∧ (t.getD i default).lo ≤ r.hi
instance (t : List Rg) (i : Nat) (r : Rg) : Decidable (meets t i r) := inferInstanceAs (Decidable (_ ∧ _))
theorem tbl_rises {t : List Rg} (h : Tbl t) : Rises t := fun i j hij hj => by
  rcases Nat.eq_or_lt_of_le hij with rfl | g
  · exact Int.le_refl _
  · have h1 := List.pairwise_iff_getElem.1 h.2 i j (by omega) hj g
    have h2 := ((t.getD j default).may_iff).1 (h.1 _ (getD_mem hj))
    rw [getD_eq (show i < t.length by omega)] at *
    rw [getD_eq hj] at *
    omega
theorem ins_tbl {t : List Rg} {i : Nat} {r : Rg} (h : Tbl t) (hr : r.may = true) (hi : Reach t r.lo i) (hm : ¬ meets t i r) : Tbl (insAt t i r) := by
  refine ⟨fun q hq => ?_, ?_⟩
  · rcases List.mem_append.1 hq with h1 | h1
    · exact h.1 q (List.mem_of_mem_take h1)
    · rcases List.mem_cons.1 h1 with rfl | h1
      · exact hr
      · exact h.1 q (List.mem_of_mem_drop h1)
  · unfold insAt
    have hp := h.2
    rw [← List.take_append_drop i t] at hp
    obtain ⟨p1, p2, p3⟩ := List.pairwise_append.1 hp
    have ha : ∀ a ∈ t.take i, a.hi < r.lo := fun a ha => by
      obtain ⟨k, hk, rfl⟩ := List.mem_iff_getElem.1 ha
      have hk' : k < i ∧ k < t.length := by simp at hk; omega
      have := hi.2.1 k hk'.1
      rw [getD_eq hk'.2] at this
      rw [List.getElem_take]; exact this
    have hb : ∀ b ∈ t.drop i, r.hi < b.lo := fun b hb => by
      obtain ⟨k, hk, rfl⟩ := List.mem_iff_getElem.1 hb
      have hk' : i + k < t.length := by simp at hk; omega
      have h0 : r.hi < (t.getD i default).lo := by
        by_cases hg : r.hi < (t.getD i default).lo
        · exact hg
        · exact absurd ⟨by omega, by omega⟩ hm
      rw [List.getElem_drop]
      cases k with
      | zero => rw [getD_eq (show i < t.length by omega)] at h0; simpa using h0
      | succ k =>
        have h1 := List.pairwise_iff_getElem.1 h.2 i (i + (k + 1)) (by omega) hk' (by omega)
        have h2 := ((t.getD i default).may_iff).1 (h.1 _ (getD_mem (by omega)))
        rw [getD_eq (show i < t.length by omega)] at h0 h2
        omega
    rw [List.pairwise_append]
    refine ⟨p1, List.pairwise_cons.2 ⟨hb, p2⟩, fun a hA b hB => ?_⟩
    rcases List.mem_cons.1 hB with rfl | hB
    · exact ha a hA
    · exact p3 a hA b hB
/-- the ranges, one by one, put where they belong; the number of the first that shares a rune with one ahead of it -/
def buildL : List Rg → List Rg → Nat → List Rg × Nat × Nat
  | [], t, _ => (t, 0, 0)
  | r :: rest, t, k => if meets t (reachN t r.lo) r then ([], k, 7) else buildL rest (insAt t (reachN t r.lo) r) (k + 1)
/-- what Build answers -/
def buildM (l : List Rg) : List Rg × Nat × Nat :=
  match (faultsM l).find? (fun x => x.2 != 6) with
  | some x => ([], x)
  | none => buildL l [] 0
theorem buildL_tbl : ∀ (rest acc : List Rg) (k : Nat), Tbl (acc ++ rest) → buildL rest acc k = (acc ++ rest, 0, 0) := by
  intro rest
  induction rest with
  | nil => intro acc k _; simp [buildL]
  | cons r rest ih =>
    intro acc k h
    have hacc : Tbl acc := ⟨fun q hq => h.1 q (by simp [hq]), (List.pairwise_append.1 h.2).1⟩
    have hall : ∀ q ∈ acc, q.hi < r.lo := fun q hq => (List.pairwise_append.1 h.2).2.2 q hq r (by simp)
    have hre : Reach acc r.lo acc.length := ⟨Nat.le_refl _, fun j hj => hall _ (getD_mem hj), fun j h1 h2 => by omega⟩
    have e : reachN acc r.lo = acc.length := reach_unique (reach_of (tbl_rises hacc) _) hre
    unfold buildL
    rw [e, if_neg (fun h => by have := h.1; omega)]
    have e2 : insAt acc acc.length r = acc ++ [r] := by simp [insAt]
    rw [e2, ih (acc ++ [r]) (k + 1) (by simpa using h)]
    simp
theorem faults_none {l : List Rg} (h : (faultsM l).find? (fun x => x.2 != 6) = none) : l.length ≤ 2000 ∧ Mays l := by
  rw [List.find?_eq_none] at h
  have hl : l.length ≤ 2000 := by
    by_cases hb : 2000 < l.length
    · exfalso
      have := h (0, 18) (by unfold faultsM; rw [if_pos hb]; simp)
      simp at this
    · omega
  refine ⟨hl, fun i hi => ?_⟩
  by_cases hm : (l.getD i default).may = true
  · exact hm
  · exfalso
    have hc : codeAt l i = 4 := by unfold codeAt; rw [if_pos (by simpa using hm)]
    have := h (i, 4) (by
      unfold faultsM; rw [if_neg (by omega)]
      unfold faultsTo
      refine List.mem_map.2 ⟨i, List.mem_filter.2 ⟨List.mem_range.2 hi, by rw [hc]; rfl⟩, by rw [hc]⟩)
    simp at this
theorem drop_cons3 {l : List Rg} {k : Nat} (h : k < l.length) : l.drop k = l.getD k default :: l.drop (k + 1) := by
  rw [List.drop_eq_getElem_cons h, getD_eq h]
end Go.Proofs.YtlnehhfljjeifaaGreatDoor

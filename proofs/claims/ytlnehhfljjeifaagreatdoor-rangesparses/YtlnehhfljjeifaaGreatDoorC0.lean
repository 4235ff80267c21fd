/-
  What is proved here: plain mathematics: the document's way of building a table, and the program's, are one (no program).
-/
import Derived.Test.YtlnehhfljjeifaaGreatDoorB0
namespace Go.Proofs.YtlnehhfljjeifaaGreatDoor

theorem first_may {l : List Rg} {i : Nat} (hl : l.length ≤ 2000) (hi : i < l.length) (h0 : ∀ j, j < i → (l.getD j default).may = true) (h1 : (l.getD i default).may = false) : (faultsM l).find? (fun x => x.2 != 6) = some (i, 4) := by
  have hc : codeAt l i = 4 := by unfold codeAt; rw [if_pos h1]
  obtain ⟨t, ht⟩ := faultsTo_prefix l (i + 1) l.length (by omega)
  unfold faultsM
  rw [if_neg (by omega), ← ht, faultsTo_succ, hc, List.find?_append, List.find?_append, List.find?_eq_none.2 (fun y hy => ?_)]
  · rfl
  · obtain ⟨a1, a2, a3⟩ := faultsTo_mem l i y hy
    have hm := h0 y.1 a1
    have : y.2 ≠ 4 := by
      rw [a2]; unfold codeAt; rw [hm]
      simp; split <;> omega
    have : y.2 = 6 := by omega
    simp [this]
theorem build_bad {l : List Rg} {i : Nat} (hl : l.length ≤ 2000) (hi : i < l.length) (h0 : ∀ j, j < i → (l.getD j default).may = true) (h1 : (l.getD i default).may = false) : buildM l = ([], i, 4) := by
  unfold buildM; rw [first_may hl hi h0 h1]
theorem all_may {l : List Rg} (hl : l.length ≤ 2000) (hm : Mays l) : buildM l = buildL l [] 0 := by
  unfold buildM
  rw [List.find?_eq_none.2 (fun y hy => ?_)]
  unfold faultsM at hy
  rw [if_neg (by omega)] at hy
  obtain ⟨a1, a2, a3⟩ := faultsTo_mem l _ y hy
  have : y.2 ≠ 4 := by
    rw [a2]; unfold codeAt; rw [hm y.1 a1]
    simp; split <;> omega
  have : y.2 = 6 := by omega
  simp [this]
/-- do two ranges share a rune? -/
def share (a b : Rg) : Prop := a.lo ≤ b.hi ∧ b.lo ≤ a.hi
theorem meets_iff {t : List Rg} {r : Rg} (h : Tbl t) : meets t (reachN t r.lo) r ↔ ∃ q ∈ t, share q r := by
  have hR := reach_of (tbl_rises h) r.lo
  constructor
  · rintro ⟨h1, h2⟩
    exact ⟨_, getD_mem h1, h2, hR.2.2 _ (Nat.le_refl _) h1⟩
  · rintro ⟨q, hq, h1, h2⟩
    obtain ⟨j, hj, rfl⟩ := List.mem_iff_getElem.1 hq
    have hij : reachN t r.lo ≤ j := by
      rcases Nat.lt_or_ge j (reachN t r.lo) with g | g
      · have := hR.2.1 j g; rw [getD_eq hj] at this; omega
      · exact g
    refine ⟨by omega, ?_⟩
    rcases Nat.eq_or_lt_of_le hij with e | g
    · rw [e, getD_eq hj]; exact h1
    · have h3 := List.pairwise_iff_getElem.1 h.2 (reachN t r.lo) j (by omega) hj g
      have h4 := ((t.getD (reachN t r.lo) default).may_iff).1 (h.1 _ (getD_mem (by omega)))
      rw [getD_eq (show reachN t r.lo < t.length by omega)] at h4 ⊢
      omega
theorem mem_insAt {t : List Rg} {i : Nat} {r q : Rg} : q ∈ insAt t i r ↔ q ∈ t ∨ q = r := by
  unfold insAt
  rw [List.mem_append, List.mem_cons]
  constructor
  · rintro (h | h | h)
    · exact .inl (List.mem_of_mem_take h)
    · exact .inr h
    · exact .inl (List.mem_of_mem_drop h)
  · rintro (h | h)
    · rw [← List.take_append_drop i t] at h
      rcases List.mem_append.1 h with h | h
      · exact .inl h
      · exact .inr (.inr h)
    · exact .inr (.inl h)
/-- the partial table behind k ranges that do not meet -/
def part (l : List Rg) : Nat → List Rg
  | 0 => []
  | k + 1 => insAt (part l k) (reachN (part l k) (l.getD k default).lo) (l.getD k default)
theorem part_mem (l : List Rg) : ∀ k, k ≤ l.length → ∀ q, q ∈ part l k ↔ ∃ j, j < k ∧ q = l.getD j default := by
  intro k
  induction k with
  | zero => intro _ q; simp [part]
  | succ k ih =>
    intro hk q
    unfold part
    rw [mem_insAt, ih (by omega)]
    constructor
    · rintro (⟨j, hj, rfl⟩ | rfl)
      · exact ⟨j, by omega, rfl⟩
      · exact ⟨k, by omega, rfl⟩
    · rintro ⟨j, hj, rfl⟩
      rcases Nat.lt_or_ge j k with g | g
      · exact .inl ⟨j, g, rfl⟩
      · obtain rfl : j = k := by omega
        exact .inr rfl
theorem part_len (l : List Rg) : ∀ k, (part l k).length = k := by
  intro k
  induction k with
  | zero => rfl
  | succ k ih => unfold part; rw [insAt_len _ _ _ (reachN_spec _ _).1, ih]
/-- no two of the first k share a rune -/
def Alone (l : List Rg) (k : Nat) : Prop := ∀ i j, j < i → i < k → ¬ share (l.getD j default) (l.getD i default)
theorem part_step {l : List Rg} {k : Nat} (hk : k < l.length) (hT : Tbl (part l k)) : meets (part l k) (reachN (part l k) (l.getD k default).lo) (l.getD k default) ↔ ∃ j, j < k ∧ share (l.getD j default) (l.getD k default) := by
  rw [meets_iff hT]
  constructor
  · rintro ⟨q, hq, hs⟩
    obtain ⟨j, hj, rfl⟩ := (part_mem l k (by omega) q).1 hq
    exact ⟨j, hj, hs⟩
  · rintro ⟨j, hj, hs⟩
    exact ⟨_, (part_mem l k (by omega) _).2 ⟨j, hj, rfl⟩, hs⟩
theorem part_tbl {l : List Rg} (hm : Mays l) : ∀ k, k ≤ l.length → Alone l k → Tbl (part l k) ∧ buildL l [] 0 = buildL (l.drop k) (part l k) k := by
  intro k
  induction k with
  | zero => intro _ _; exact ⟨⟨by simp [part], by simp [part]⟩, rfl⟩
  | succ k ih =>
    intro hk ha
    obtain ⟨hT, hB⟩ := ih (by omega) (fun i j h1 h2 => ha i j h1 (by omega))
    have hn : ¬ meets (part l k) (reachN (part l k) (l.getD k default).lo) (l.getD k default) := fun h => by
      obtain ⟨j, hj, hs⟩ := (part_step (by omega) hT).1 h
      exact ha k j hj (by omega) hs
    refine ⟨ins_tbl hT (hm k (by omega)) (reach_of (tbl_rises hT) _) hn, ?_⟩
    rw [hB, drop_cons3 (show k < l.length by omega)]
    show (if _ then _ else _) = _
    rw [if_neg hn]; rfl
theorem build_there {l : List Rg} {i j : Nat} (hl : l.length ≤ 2000) (hm : Mays l) (hi : i < l.length) (ha : Alone l i) (hj : j < i) (hs : share (l.getD j default) (l.getD i default)) : buildM l = ([], i, 7) := by
  obtain ⟨hT, hB⟩ := part_tbl hm i (by omega) ha
  rw [all_may hl hm, hB, drop_cons3 hi]
  show (if _ then _ else _) = _
  rw [if_pos ((part_step hi hT).2 ⟨j, hj, hs⟩)]
theorem build_all {l : List Rg} (hl : l.length ≤ 2000) (hm : Mays l) (ha : Alone l l.length) : buildM l = (part l l.length, 0, 0) := by
  obtain ⟨hT, hB⟩ := part_tbl hm l.length (Nat.le_refl _) ha
  rw [all_may hl hm, hB, List.drop_length]; rfl
/-- where the document puts a range that shares no rune -/
theorem part_place {l : List Rg} {k : Nat} (hm : Mays l) (hk : k < l.length) (ha : Alone l l.length) :
    reachN (part l k) (l.getD k default).lo ≤ k ∧ (∀ j, j < reachN (part l k) (l.getD k default).lo → ((part l k).getD j default).lo ≤ (l.getD k default).lo) ∧ (∀ j, reachN (part l k) (l.getD k default).lo ≤ j → j < k → (l.getD k default).lo < ((part l k).getD j default).lo) := by
  obtain ⟨hT, -⟩ := part_tbl hm k (by omega) (fun i j h1 h2 => ha i j h1 (by omega))
  have hn : ¬ meets (part l k) (reachN (part l k) (l.getD k default).lo) (l.getD k default) := fun h => by
    obtain ⟨j, hj, hs⟩ := (part_step hk hT).1 h
    exact ha k j hj (by omega) hs
  have hR := reach_of (tbl_rises hT) (l.getD k default).lo
  have hpl := part_len l k
  have hT2 := ins_tbl hT (hm k hk) hR hn
  refine ⟨by have := hR.1; omega, fun j hj => ?_, fun j h1 h2 => ?_⟩
  · have h3 := hR.2.1 j hj
    have h4 := (((part l k).getD j default).may_iff).1 (hT.1 _ (getD_mem (by have := hR.1; omega)))
    omega
  · have h5 := (List.pairwise_append.1 hT2.2).2.1
    have h6 := (List.pairwise_cons.1 h5).1 ((part l k).getD j default) (by
      have hjl : j < (part l k).length := by omega
      rw [getD_eq hjl]
      exact List.mem_drop_iff_getElem.2 ⟨j - reachN (part l k) (l.getD k default).lo, by omega, by congr 1; omega⟩)
    have h7 := ((l.getD k default).may_iff).1 (hm k hk)
    omega
end Go.Proofs.YtlnehhfljjeifaaGreatDoor

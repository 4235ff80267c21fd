/-
  What is proved here: plain facts on what a text is decoded to. No program is in it.
-/
import Derived.Test.YteflghhpdikidaaDoorUtf
namespace Go.Proofs.YteflghhpdikidaaDoor.Utf

theorem first_width {l : List UInt8} {r n : Int} (h : first l = (r, n, 0)) : 1 ≤ n ∧ n ≤ 4 ∧ n ≤ l.length ∧ n = width r ∧ 0 ≤ r := by
  cases l with
  | nil => simp [first] at h
  | cons b t =>
    rw [first] at h
    have hw := formWidth_le b.toNat
    have hlen : (t.take ((formWidth b.toNat).toNat - 1)).length ≤ t.length := by rw [List.length_take]; omega
    have hlen2 : (t.take ((formWidth b.toNat).toNat - 1)).length ≤ (formWidth b.toNat).toNat - 1 := by rw [List.length_take]; omega
    split at h
    · simp at h
    · rename_i h0
      split at h
      · simp at h
      · split at h
        · simp at h
        · rename_i hl
          split at h
          · simp at h
          · rename_i hlt
            obtain ⟨a0, -⟩ := acc_pw b (t.take ((formWidth b.toNat).toNat - 1)) h0 (by omega)
            have e : formWidth b.toNat - 1 - ((t.take ((formWidth b.toNat).toNat - 1)).length : Int) = 0 := by omega
            rw [e] at hl
            simp only [Prod.mk.injEq] at h
            obtain ⟨rfl, rfl, -⟩ := h
            refine ⟨by omega, by omega, by simp only [List.length_cons]; omega, ?_, a0⟩
            simp [ltr, pw] at hl
            exact hl.symm

/-- the runes of a text whose first byte stands at the place a, in at most so many steps; or the place and the number of what is wrong -/
def decF : Nat → List UInt8 → Nat → List Int × Nat × Nat
  | 0, l, a => if l = [] then ([], 0, 0) else ([], a, 1)
  | f + 1, l, a =>
    if l = [] then ([], 0, 0)
    else if (first l).2.2 = 0 then
      if (decF f (l.drop (first l).2.1.toNat) (a + (first l).2.1.toNat)).2.2 = 0 then ((first l).1 :: (decF f (l.drop (first l).2.1.toNat) (a + (first l).2.1.toNat)).1, 0, 0)
      else ([], (decF f (l.drop (first l).2.1.toNat) (a + (first l).2.1.toNat)).2.1, (decF f (l.drop (first l).2.1.toNat) (a + (first l).2.1.toNat)).2.2)
    else ([], a, (first l).2.2)
/-- the runes of a text whose first byte stands at the place a; or the place and the number of what is wrong -/
def dec (l : List UInt8) (a : Nat) : List Int × Nat × Nat := decF l.length l a

/-- runes put ahead -/
def glue (rs : List Int) (x : List Int × Nat × Nat) : List Int × Nat × Nat := if x.2.2 = 0 then (rs ++ x.1, 0, 0) else ([], x.2.1, x.2.2)
theorem glue_nil (rs : List Int) : glue rs ([], 0, 0) = (rs, 0, 0) := by simp [glue]
theorem glue_bad (rs : List Int) (a c : Nat) (h : c ≠ 0) : glue rs ([], a, c) = ([], a, c) := by simp [glue, h]
theorem glue_glue (rs qs : List Int) (x : List Int × Nat × Nat) : glue rs (glue qs x) = glue (rs ++ qs) x := by
  unfold glue
  by_cases h : x.2.2 = 0 <;> simp [h]
theorem decF_nil (f a : Nat) : decF f [] a = ([], 0, 0) := by cases f <;> simp [decF]
theorem dec_nil (a : Nat) : dec [] a = ([], 0, 0) := decF_nil _ a
theorem decF_bad {l : List UInt8} (f a : Nat) (hl : l ≠ []) (h : (first l).2.2 ≠ 0) : decF (f + 1) l a = ([], a, (first l).2.2) := by
  rw [decF, if_neg hl, if_neg h]
theorem decF_step {l : List UInt8} (f a : Nat) {r n : Int} (h : first l = (r, n, 0)) : decF (f + 1) l a = glue [r] (decF f (l.drop n.toNat) (a + n.toNat)) := by
  have hw := first_width h
  have hl : l ≠ [] := by rintro rfl; simp at hw; omega
  rw [decF, if_neg hl]
  simp only [h]
  rw [if_pos trivial]
  rfl
/-- one step more than are enough -/
theorem decF_succ : ∀ (f : Nat) (l : List UInt8) (a : Nat), l.length ≤ f → decF (f + 1) l a = decF f l a := by
  intro f
  induction f with
  | zero =>
    intro l a hl
    have : l = [] := List.eq_nil_of_length_eq_zero (by omega)
    subst this
    rw [decF_nil, decF_nil]
  | succ f ih =>
    intro l a hl
    by_cases hn : l = []
    · subst hn; rw [decF_nil, decF_nil]
    · by_cases hc : (first l).2.2 = 0
      · obtain ⟨r, n, hf⟩ : ∃ r n, first l = (r, n, 0) := ⟨_, _, Prod.ext rfl (Prod.ext rfl hc)⟩
        have hw := first_width hf
        rw [decF_step (f + 1) a hf, decF_step f a hf, ih _ _ (by rw [List.length_drop]; omega)]
      · rw [decF_bad (f + 1) a hn hc, decF_bad f a hn hc]
/-- steps enough are steps enough -/
theorem decF_more (k : Nat) (l : List UInt8) (a : Nat) : decF (l.length + k) l a = dec l a := by
  induction k with
  | zero => rfl
  | succ k ih => rw [← Nat.add_assoc, decF_succ _ _ _ (by omega), ih]
theorem dec_bad {l : List UInt8} (a : Nat) (hl : l ≠ []) (h : (first l).2.2 ≠ 0) : dec l a = ([], a, (first l).2.2) := by
  obtain ⟨m, hm⟩ : ∃ m, l.length = m + 1 := ⟨l.length - 1, by have := List.length_pos_iff.2 hl; omega⟩
  rw [dec, hm, decF_bad m a hl h]
theorem dec_step {l : List UInt8} (a : Nat) {r n : Int} (h : first l = (r, n, 0)) : dec l a = glue [r] (dec (l.drop n.toNat) (a + n.toNat)) := by
  have hw := first_width h
  obtain ⟨m, hm⟩ : ∃ m, l.length = m + 1 := ⟨l.length - 1, by omega⟩
  rw [dec, hm, decF_step m a h]
  have e : m = (l.drop n.toNat).length + (m - (l.drop n.toNat).length) := by rw [List.length_drop]; omega
  rw [e, decF_more]
theorem glue_ok (rs : List Int) (x : List Int × Nat × Nat) : ((glue rs x).2.2 = 0 → (glue rs x).2.1 = 0) ∧ ((glue rs x).2.2 ≠ 0 → (glue rs x).1 = []) := by
  unfold glue
  by_cases h : x.2.2 = 0 <;> simp [h]
theorem dec_both (l : List UInt8) (a : Nat) : ((dec l a).2.2 = 0 → (dec l a).2.1 = 0) ∧ ((dec l a).2.2 ≠ 0 → (dec l a).1 = []) := by
  by_cases hn : l = []
  · subst hn; rw [dec_nil]; simp
  · by_cases hc : (first l).2.2 = 0
    · obtain ⟨r, n, hf⟩ : ∃ r n, first l = (r, n, 0) := ⟨_, _, Prod.ext rfl (Prod.ext rfl hc)⟩
      rw [dec_step a hf]
      exact glue_ok _ _
    · rw [dec_bad a hn hc]
      exact ⟨fun h => absurd h hc, fun _ => rfl⟩
theorem dec_code {l : List UInt8} (a : Nat) (h : (dec l a).2.2 ≠ 0) : (dec l a).1 = [] := (dec_both l a).2 h
theorem dec_zero {l : List UInt8} (a : Nat) (h : (dec l a).2.2 = 0) : (dec l a).2.1 = 0 := (dec_both l a).1 h
theorem glue_start (l : List UInt8) : dec l 0 = glue [] (dec (l.drop 0) 0) := by
  rw [List.drop_zero, glue]
  split
  · rename_i h
    rw [List.nil_append]
    exact Prod.ext rfl (Prod.ext (dec_zero 0 h) h)
  · rename_i h
    exact Prod.ext (dec_code 0 h) rfl
end Go.Proofs.YteflghhpdikidaaDoor.Utf

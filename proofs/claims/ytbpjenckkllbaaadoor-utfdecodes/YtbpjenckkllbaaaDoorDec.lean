/-
  What is proved here: plain facts on what a text is decoded to. No program is in it.
-/
import Derived.Test.YtbpjenckkllbaaaDoorUtf
namespace Go.Proofs.YtbpjenckkllbaaaDoor.Utf

theorem first_width {l : List UInt8} {r n : Int} (h : first l = (r, n, 0)) : 1 ≤ n ∧ n ≤ 4 ∧ n ≤ l.length ∧ n = width r ∧ 0 ≤ r := by
  cases l with
  | nil => simp [first] at h
  | cons b t =>
    rw [first] at h
    have hw := formWidth_le b.toNat
    have hlen : (t.take ((formWidth b.toNat).toNat - 1)).length ≤ t.length := by rw [List.length_take]; omega
    have hlen2 : (t.take ((formWidth b.toNat).toNat - 1)).length ≤ (formWidth b.toNat).toNat - 1 := by rw [List.length_take]; omega
    split at h
    · simp at h
    · rename_i h0
      split at h
      · simp at h
      · split at h
        · simp at h
        · rename_i hl
          split at h
          · simp at h
          · rename_i hlt
            obtain ⟨a0, -⟩ := acc_pw b (t.take ((formWidth b.toNat).toNat - 1)) h0 (by omega)
            have e : formWidth b.toNat - 1 - ((t.take ((formWidth b.toNat).toNat - 1)).length : Int) = 0 := by omega
            rw [e] at hl
            simp only [Prod.mk.injEq] at h
            obtain ⟨rfl, rfl, -⟩ := h
            refine ⟨by omega, by omega, by simp only [List.length_cons]; omega, ?_, a0⟩
            simp [ltr, pw] at hl
            exact hl.symm

/-- the runes of a text whose first byte stands at the place a; or the place and the number of what is wrong -/
def dec (l : List UInt8) (a : Nat) : List Int × Nat × Nat :=
  if l = [] then ([], 0, 0)
  else if (first l).2.2 = 0 then
    if _hn : (first l).2.1.toNat = 0 ∨ l.length < (first l).2.1.toNat then ([], a, 1)
    else
      let x := dec (l.drop (first l).2.1.toNat) (a + (first l).2.1.toNat)
      if x.2.2 = 0 then ((first l).1 :: x.1, 0, 0) else ([], x.2.1, x.2.2)
  else ([], a, (first l).2.2)
termination_by l.length
decreasing_by simp only [List.length_drop]; omega

/-- runes put ahead -/
def glue (rs : List Int) (x : List Int × Nat × Nat) : List Int × Nat × Nat := if x.2.2 = 0 then (rs ++ x.1, 0, 0) else ([], x.2.1, x.2.2)
theorem glue_nil (rs : List Int) : glue rs ([], 0, 0) = (rs, 0, 0) := by simp [glue]
theorem glue_bad (rs : List Int) (a c : Nat) (h : c ≠ 0) : glue rs ([], a, c) = ([], a, c) := by simp [glue, h]
theorem glue_glue (rs qs : List Int) (x : List Int × Nat × Nat) : glue rs (glue qs x) = glue (rs ++ qs) x := by
  unfold glue
  by_cases h : x.2.2 = 0 <;> simp [h]
theorem dec_nil (a : Nat) : dec [] a = ([], 0, 0) := by rw [dec]; simp
theorem dec_bad {l : List UInt8} (a : Nat) (hl : l ≠ []) (h : (first l).2.2 ≠ 0) : dec l a = ([], a, (first l).2.2) := by
  rw [dec, if_neg hl, if_neg h]
theorem dec_step {l : List UInt8} (a : Nat) {r n : Int} (h : first l = (r, n, 0)) : dec l a = glue [r] (dec (l.drop n.toNat) (a + n.toNat)) := by
  have hw := first_width h
  have hl : l ≠ [] := by rintro rfl; simp at hw; omega
  rw [dec, if_neg hl]
  simp only [h]
  rw [if_pos trivial, dif_neg (by omega)]
  simp [glue]
theorem dec_code {l : List UInt8} (a : Nat) (h : (dec l a).2.2 ≠ 0) : (dec l a).1 = [] := by
  rw [dec] at h ⊢
  split at h
  · simp at h
  · rename_i h0
    rw [if_neg h0]
    split at h
    · rename_i h1
      rw [if_pos h1]
      split at h
      · rename_i h2; rw [dif_pos h2]
      · rename_i h2
        rw [dif_neg h2]
        dsimp only at h ⊢
        split at h
        · simp at h
        · rename_i h3; rw [if_neg h3]
    · rename_i h1; rw [if_neg h1]
theorem dec_zero {l : List UInt8} (a : Nat) (h : (dec l a).2.2 = 0) : (dec l a).2.1 = 0 := by
  rw [dec] at h ⊢
  split
  · rfl
  · rename_i h0
    rw [if_neg h0] at h
    split
    · rename_i h1
      rw [if_pos h1] at h
      split
      · rename_i h2; rw [dif_pos h2] at h; cases h
      · rename_i h2
        rw [dif_neg h2] at h
        dsimp only at h ⊢
        split
        · rfl
        · rename_i h3; rw [if_neg h3] at h; exact absurd h h3
    · rename_i h1; rw [if_neg h1] at h; exact absurd h h1
theorem glue_start (l : List UInt8) : dec l 0 = glue [] (dec (l.drop 0) 0) := by
  rw [List.drop_zero, glue]
  split
  · rename_i h
    have e : (dec l 0).2.1 = 0 := dec_zero 0 h
    rw [List.nil_append]
    exact Prod.ext rfl (Prod.ext e h)
  · rename_i h
    exact Prod.ext (dec_code 0 h) rfl
end Go.Proofs.YtbpjenckkllbaaaDoor.Utf

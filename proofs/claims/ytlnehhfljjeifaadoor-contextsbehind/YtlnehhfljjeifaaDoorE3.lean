/-
  What is proved here: what the reference's Check answers.
-/
import Derived.Test.YtlnehhfljjeifaaDoorE2
import Derived.Test.YtlnehhfljjeifaaDoorB2
namespace Go.Proofs.YtlnehhfljjeifaaDoor
open Go.RowKit

theorem chk4_big {t : Nm} (h : 2000 < t.rows.length ∨ 2000 < t.exc.length) : chk4 t = (0, 18) := by unfold chk4; rw [if_pos h]
theorem chk4_row {t : Nm} (hb : ¬ (2000 < t.rows.length ∨ 2000 < t.exc.length)) {k : Nat} (hk : k < t.rows.length) (h0 : ∀ i, i < k → rowCode t.rows i = 0) (hc : rowCode t.rows k ≠ 0) : chk4 t = (k, rowCode t.rows k) := by
  unfold chk4; rw [if_neg hb, ff_at _ _ k hk h0 hc, orE_l hc]
theorem chk4_tab {t : Nm} (hb : ¬ (2000 < t.rows.length ∨ 2000 < t.exc.length)) (hr : ∀ i, i < t.rows.length → rowCode t.rows i = 0) (hc : (chk t.cls).2 ≠ 0) : chk4 t = chk t.cls := by
  unfold chk4; rw [if_neg hb, ff_none _ _ hr, orE_r rfl, orE_l hc]
theorem chk4_cls {t : Nm} (hb : ¬ (2000 < t.rows.length ∨ 2000 < t.exc.length)) (hr : ∀ i, i < t.rows.length → rowCode t.rows i = 0) (ht : (chk t.cls).2 = 0) {k : Nat} (hk : k < t.cls.length) (h0 : ∀ i, i < k → clsCode t.cls i = 0) (hc : clsCode t.cls k ≠ 0) : chk4 t = (k, clsCode t.cls k) := by
  unfold chk4; rw [if_neg hb, ff_none _ _ hr, orE_r rfl, orE_r ht, ff_at _ _ k hk h0 hc, orE_l hc]
theorem chk4_exc {t : Nm} (hb : ¬ (2000 < t.rows.length ∨ 2000 < t.exc.length)) (hr : ∀ i, i < t.rows.length → rowCode t.rows i = 0) (ht : (chk t.cls).2 = 0) (hcl : ∀ i, i < t.cls.length → clsCode t.cls i = 0) {k : Nat} (hk : k < t.exc.length) (h0 : ∀ i, i < k → excCode t.exc i = 0) (hc : excCode t.exc k ≠ 0) : chk4 t = (k, excCode t.exc k) := by
  unfold chk4; rw [if_neg hb, ff_none _ _ hr, orE_r rfl, orE_r ht, ff_none _ _ hcl, orE_r rfl, ff_at _ _ k hk h0 hc, orE_l hc]
theorem chk4_there {t : Nm} (hb : ¬ (2000 < t.rows.length ∨ 2000 < t.exc.length)) (hr : ∀ i, i < t.rows.length → rowCode t.rows i = 0) (ht : (chk t.cls).2 = 0) (hcl : ∀ i, i < t.cls.length → clsCode t.cls i = 0) (hex : ∀ i, i < t.exc.length → excCode t.exc i = 0) {k : Nat} (hk : k < t.rows.length) (h0 : ∀ i, i < k → thereCode t i = 0) (hc : thereCode t k ≠ 0) : chk4 t = (k, thereCode t k) := by
  unfold chk4; rw [if_neg hb, ff_none _ _ hr, orE_r rfl, orE_r ht, ff_none _ _ hcl, orE_r rfl, ff_none _ _ hex, orE_r rfl, ff_at _ _ k hk h0 hc]
theorem chk4_none {t : Nm} (hb : ¬ (2000 < t.rows.length ∨ 2000 < t.exc.length)) (hr : ∀ i, i < t.rows.length → rowCode t.rows i = 0) (ht : (chk t.cls).2 = 0) (hcl : ∀ i, i < t.cls.length → clsCode t.cls i = 0) (hex : ∀ i, i < t.exc.length → excCode t.exc i = 0) (hth : ∀ i, i < t.rows.length → thereCode t i = 0) : chk4 t = (0, 0) := by
  unfold chk4; rw [if_neg hb, ff_none _ _ hr, orE_r rfl, orE_r ht, ff_none _ _ hcl, orE_r rfl, ff_none _ _ hex, orE_r rfl, ff_none _ _ hth]
/-- does the row number k compose what the row number i composes? -/
def hitM (t : Nm) (i k : Nat) : Bool := composesM t i && (composesM t k && ((rw_ t.rows i).to0 == (rw_ t.rows k).to0 && (rw_ t.rows i).to1 == (rw_ t.rows k).to1))
theorem there_of_hit {t : Nm} {i k : Nat} (hk : k < i) (h : hitM t i k = true) : thereCode t i = 7 := by
  unfold hitM at h
  simp only [Bool.and_eq_true, beq_iff_eq] at h
  unfold thereCode
  rw [if_pos]
  refine ⟨h.1, List.any_eq_true.2 ⟨k, by simpa using hk, ?_⟩⟩
  rw [h.2.1, h.2.2.1, h.2.2.2]; simp
theorem there_of_none {t : Nm} {i : Nat} (h : ∀ k, k < i → hitM t i k = false) : thereCode t i = 0 := by
  unfold thereCode
  rw [if_neg]
  rintro ⟨h1, ha⟩
  obtain ⟨j, hj, h2⟩ := List.any_eq_true.1 ha
  rw [Bool.and_eq_true, Bool.and_eq_true, beq_iff_eq, beq_iff_eq] at h2
  have := h j (by simpa using hj)
  unfold hitM at this
  rw [h1, h2.1, h2.2.1, h2.2.2] at this
  simp at this
theorem up_to {f : Nat → Nat} {k : Nat} (h : ∀ i, i < k → f i = 0) (e : f k = 0) : ∀ i, i < k + 1 → f i = 0 := fun i hi => by
  rcases Nat.lt_or_ge i k with g | g
  · exact h i g
  · obtain rfl : i = k := by omega
    exact e
theorem up_toB {f : Nat → Bool} {k : Nat} (h : ∀ i, i < k → f i = false) (e : f k = false) : ∀ i, i < k + 1 → f i = false := fun i hi => by
  rcases Nat.lt_or_ge i k with g | g
  · exact h i g
  · obtain rfl : i = k := by omega
    exact e
theorem hangs_hit {lo hi r : Int} (h1 : lo ≤ r) (h2 : r ≤ hi) (h : hang r = true) : hangs lo hi = true := by
  cases e : hangs lo hi
  · rw [hangs_false lo hi e r h1 h2] at h; cases h
  · rfl
theorem hangs_none {lo hi : Int} (h0 : lo ≤ hi) (h : ∀ r, lo ≤ r → r ≤ hi → hang r = false) : hangs lo hi = false := by
  cases e : hangs lo hi
  · rfl
  · obtain ⟨r, h1, h2, h3⟩ := hangs_true lo hi h0 e
    rw [h r h1 h2] at h3; cases h3
theorem ret_two {a b : Nat × Nat} (h : a = b) : Ending.returned (.tuple #[.int .i64 b.1, .int .i64 b.2]) = .returned (.tuple #[.int .i64 a.1, .int .i64 a.2]) := by rw [h]
end Go.Proofs.YtlnehhfljjeifaaDoor

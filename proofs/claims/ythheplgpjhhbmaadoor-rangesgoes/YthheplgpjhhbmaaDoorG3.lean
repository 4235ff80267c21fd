/-
  What is proved here: plain mathematics of a table's runes, told one by one (no program).
-/
import Derived.Test.YthheplgpjhhbmaaDoorG2
import Derived.Test.YthheplgpjhhbmaaDoorJ0
namespace Go.Proofs.YthheplgpjhhbmaaDoor

/-- what the law has in hand: is all well so far, and the last rune -/
def gstep (l : List Rg) (s : Bool × Int) (x : Int × Int) : Bool × Int :=
  (s.1 && (find l x.1).isSome && (x.2 == (find l x.1).getD 0) && decide (s.2 < x.1), x.1)
def gs (l : List Rg) (pre : List (Int × Int)) : Bool × Int := pre.foldl (gstep l) (true, -1)
theorem gs_snoc (l : List Rg) (pre : List (Int × Int)) (x : Int × Int) : gs l (pre ++ [x]) = gstep l (gs l pre) x := by simp [gs]
theorem gfold_mono (l : List Rg) (b : List (Int × Int)) : ∀ s : Bool × Int, (b.foldl (gstep l) s).1 = true → s.1 = true := by
  induction b with
  | nil => intro s h; exact h
  | cons x t ih =>
    intro s h
    have := ih _ h
    simp [gstep] at this
    exact this.1.1.1
theorem gfold_good (l : List Rg) : ∀ (pre : List (Int × Int)) (s : Bool × Int), s.1 = true → (∀ x ∈ pre, find l x.1 = some x.2) → pre.Pairwise (fun a b => a.1 < b.1) → (∀ x ∈ pre, s.2 < x.1) → (pre.foldl (gstep l) s).1 = true := by
  intro pre
  induction pre with
  | nil => intro s h _ _ _; exact h
  | cons x t ih =>
    intro s h1 h2 h3 h4
    have hx := h2 x (by simp)
    refine ih _ ?_ (fun y hy => h2 y (by simp [hy])) (List.pairwise_cons.1 h3).2 (fun y hy => (List.pairwise_cons.1 h3).1 y hy)
    have := h4 x (by simp)
    simp [gstep, hx, h1, this]
theorem find_mem {l : List Rg} (h : Tbl l) {r : Rg} (hr : r ∈ l) {x : Int} (h1 : r.lo ≤ x) (h2 : x ≤ r.hi) : find l x = some r.val := by
  obtain ⟨i, hi, rfl⟩ := List.mem_iff_getElem.1 hr
  have := find_some l x i hi (by rw [getD_eq hi]; exact h1) (by rw [getD_eq hi]; exact h2) (fun k hk hc => by
    rw [getD_eq (show k < l.length by omega)] at hc
    have := List.pairwise_iff_getElem.1 h.2 k i (by omega) hi hk
    omega)
  rw [this, getD_eq hi]
theorem runesTo_mem {r : Rg} {j : Nat} {x : Int × Int} (h : x ∈ runesTo r j) : r.lo ≤ x.1 ∧ x.1 < r.lo + j ∧ x.2 = r.val := by
  unfold runesTo at h
  obtain ⟨i, hi, rfl⟩ := List.mem_map.1 h
  have := List.mem_range.1 hi
  simp; omega
theorem allL_eq (l : List Rg) : allL l = l.flatMap fun r => runesTo r (r.hi - r.lo + 1).toNat := by
  unfold allL allTo; rw [List.take_length]
theorem allL_good {l : List Rg} (h : Tbl l) : (gs l (allL l)).1 = true := by
  have hm : ∀ r ∈ l, 0 ≤ r.lo ∧ r.lo ≤ r.hi ∧ r.hi ≤ 1114111 ∧ 0 ≤ r.val ∧ r.val ≤ 999999 := fun r hr => (r.may_iff).1 (h.1 r hr)
  rw [allL_eq]
  refine gfold_good l _ _ rfl ?_ ?_ ?_
  · intro x hx
    obtain ⟨r, hr, hx⟩ := List.mem_flatMap.1 hx
    have h1 := runesTo_mem hx
    have h2 := hm r hr
    rw [h1.2.2]
    exact find_mem h hr h1.1 (by omega)
  · rw [List.pairwise_flatMap]
    refine ⟨fun r _ => ?_, h.2.imp_of_mem fun {a b} ha hb hab x hx y hy => ?_⟩
    · unfold runesTo
      rw [List.pairwise_map]
      exact List.pairwise_lt_range.imp fun {a b} hab => by simp; omega
    · have h1 := runesTo_mem hx
      have h2 := runesTo_mem hy
      have h3 := hm a ha
      omega
  · intro x hx
    obtain ⟨r, hr, hx⟩ := List.mem_flatMap.1 hx
    have h1 := runesTo_mem hx
    have h2 := hm r hr
    simp; omega
theorem gs_prefix {l : List Rg} (h : Tbl l) {pre : List (Int × Int)} (hp : pre <+: allL l) : (gs l pre).1 = true := by
  obtain ⟨t, ht⟩ := hp
  have := allL_good h
  rw [← ht] at this
  unfold gs at this ⊢
  rw [List.foldl_append] at this
  exact gfold_mono l t _ this
theorem allTo_len {l : List Rg} (h : Mays l) : ∀ k, k ≤ l.length → ((allTo l k).length : Int) = sumTo l k := by
  intro k
  induction k with
  | zero => intro _; simp [allTo, sumTo]
  | succ k ih =>
    intro hk
    have h1 := ((l.getD k default).may_iff).1 (h k (by omega))
    rw [allTo_succ l k (by omega), List.length_append, runesTo_len, sumTo]
    have := ih (by omega)
    omega
end Go.Proofs.YthheplgpjhhbmaaDoor

/-
  What is proved here: what a list that is a table is (no program).
-/
import Derived.Test.YtcklfcoobccgcaaDoorR5
import Derived.Test.YtcklfcoobccgcaaDoorR3
namespace Go.Proofs.YtcklfcoobccgcaaDoor

theorem right_parts {l : List Rg} (h : (chk l).2 = 0) : l.length ≤ 2000 ∧ Mays l ∧ Apart l ∧ Rises l := by
  have hR : Right l := by
    unfold Right chk at *
    cases hf : faultsM l with
    | nil => rfl
    | cons x t => rw [hf] at h; exact absurd h (faultsM_ne l x (by rw [hf]; simp))
  obtain ⟨hl, hc⟩ := (right_iff l).1 hR
  have hm : Mays l := fun i hi => by
    have := hc i hi
    unfold codeAt at this
    split at this
    · omega
    · rename_i h1; simpa using h1
  have hs : ∀ i, 0 < i → i < l.length → (l.getD (i - 1) default).hi < (l.getD i default).lo := fun i h0 hi => by
    have := hc i hi
    unfold codeAt at this
    split at this
    · omega
    · split at this
      · omega
      · rename_i h1; omega
  have hap : ∀ d i, i + d + 1 < l.length → (l.getD i default).hi < (l.getD (i + d + 1) default).lo := by
    intro d
    induction d with
    | zero => intro i hi; have := hs (i + 1) (by omega) hi; simpa using this
    | succ d ih =>
      intro i hi
      have h1 := ih i (by omega)
      have h2 := ((l.getD (i + d + 1) default).may_iff).1 (hm _ (by omega))
      have h3 := hs (i + d + 1 + 1) (by omega) (by omega)
      simp only [Nat.add_sub_cancel] at h3
      have e : i + (d + 1) + 1 = i + d + 1 + 1 := by omega
      rw [e]; omega
  have ha : Apart l := fun i j hij hj => by
    have := hap (j - i - 1) i (by omega)
    rw [show i + (j - i - 1) + 1 = j by omega] at this
    exact this
  refine ⟨hl, hm, ha, fun i j hij hj => ?_⟩
  rcases Nat.eq_or_lt_of_le hij with rfl | g
  · exact Int.le_refl _
  · have h1 := ha i j g hj
    have h2 := ((l.getD j default).may_iff).1 (hm j hj)
    omega
end Go.Proofs.YtcklfcoobccgcaaDoor

/-
  What is proved here: plain mathematics of Punycode's numbers (no program): the bias behind a number, a number's digits.
-/
namespace Go.Proofs.YtockmkcoehepiaaDoor

/-- a number brought among two -/
def amongM (n lo hi : Int) : Int := max lo (min n hi)
theorem within_lo {n lo hi : Int} (h : n < lo) (_hh : lo ≤ hi) : amongM n lo hi = lo := by unfold amongM; omega
theorem within_hi {n lo hi : Int} (h : hi < n) (_hh : lo ≤ hi) : amongM n lo hi = hi := by unfold amongM; omega
theorem within_mid {n lo hi : Int} (h : lo ≤ n) (h' : n ≤ hi) : amongM n lo hi = n := by unfold amongM; omega
theorem among_bd (n lo hi : Int) (h : lo ≤ hi) : lo ≤ amongM n lo hi ∧ amongM n lo hi ≤ hi := by unfold amongM; omega
/-- the k-th digit's bound -/
def bndM (k bias : Int) : Int := amongM (36 * (k + 1) - bias) 1 26
theorem bnd_bd (k bias : Int) : 1 ≤ bndM k bias ∧ bndM k bias ≤ 26 := among_bd _ _ _ (by omega)
def biasR : Nat → Int → Int → Int
  | 0, d, k => k + 36 * d / (d + 38)
  | f + 1, d, k => if 455 < d then biasR f (d / 35) (k + 36) else k + 36 * d / (d + 38)
theorem biasR_stop (f : Nat) (d k : Int) (h : ¬ 455 < d) : biasR f d k = k + 36 * d / (d + 38) := by
  cases f with
  | zero => rfl
  | succ f => rw [biasR, if_neg h]
theorem biasR_go (f : Nat) (d k : Int) (h : 455 < d) (hf : d.toNat ≤ f) : ∃ f', f = f' + 1 ∧ biasR f d k = biasR f' (d / 35) (k + 36) ∧ (d / 35).toNat ≤ f' := by
  cases f with
  | zero => omega
  | succ f => exact ⟨f, rfl, by rw [biasR, if_pos h], by omega⟩
theorem biasR_bd (j : Nat) : ∀ (f : Nat) (d k : Int), 0 ≤ d → d < 456 * 35 ^ j → d.toNat ≤ f → k ≤ biasR f d k ∧ biasR f d k ≤ k + 36 * j + 35 := by
  induction j with
  | zero =>
    intro f d k h0 h1 hf
    rw [biasR_stop f d k (by simp at h1; omega)]
    have e1 : 0 ≤ 36 * d / (d + 38) := Int.ediv_nonneg (by omega) (by omega)
    have e2 : 36 * d / (d + 38) < 36 := Int.ediv_lt_of_lt_mul (by omega) (by omega)
    simp
    omega
  | succ j ih =>
    intro f d k h0 h1 hf
    by_cases h : 455 < d
    · obtain ⟨f', rfl, e, hf'⟩ := biasR_go f d k h hf
      rw [e]
      have hp : (456 : Int) * 35 ^ (j + 1) = 456 * 35 ^ j * 35 := by rw [Int.pow_succ]; omega
      have := ih f' (d / 35) (k + 36) (by omega) (Int.ediv_lt_of_lt_mul (by omega) (by omega)) hf'
      push_cast
      omega
    · rw [biasR_stop f d k h]
      have e1 : 0 ≤ 36 * d / (d + 38) := Int.ediv_nonneg (by omega) (by omega)
      have e2 : 36 * d / (d + 38) < 36 := Int.ediv_lt_of_lt_mul (by omega) (by omega)
      push_cast
      omega
/-- what a number is damped to -/
def dampM (d many : Int) (first : Bool) : Int := d / (if first then 700 else 2) + d / (if first then 700 else 2) / many
theorem damp_bd {d many : Int} (first : Bool) (h0 : 0 ≤ d) (h1 : d ≤ 2147483647) (hm : 1 ≤ many) : 0 ≤ dampM d many first ∧ dampM d many first ≤ 2147483647 := by
  unfold dampM
  generalize hq : d / (if first then 700 else 2) = q
  have hq0 : 0 ≤ q := by cases first <;> simp at hq <;> omega
  have hq1 : q ≤ 1073741823 := by cases first <;> simp at hq <;> omega
  have e1 : 0 ≤ q / many := Int.ediv_nonneg hq0 (by omega)
  have e2 : q / many ≤ q := Int.ediv_le_self _ hq0
  omega
/-- the bias behind a number -/
def biasM (d many : Int) (first : Bool) : Int := biasR (dampM d many first).toNat (dampM d many first) 0
theorem bias_bd {d many : Int} (first : Bool) (h0 : 0 ≤ d) (h1 : d ≤ 2147483647) (hm : 1 ≤ many) : 0 ≤ biasM d many first ∧ biasM d many first ≤ 215 := by
  have hd := damp_bd first h0 h1 hm
  have := biasR_bd 5 _ (dampM d many first) 0 hd.1 (by omega) (Nat.le_refl _)
  unfold biasM
  omega
/-- a number's digits, from the k-th on -/
def digR : Nat → Int → Int → Int → List Int
  | 0, d, _, _ => [d]
  | f + 1, d, bias, k => if d < bndM k bias then [d] else (bndM k bias + (d - bndM k bias) % (36 - bndM k bias)) :: digR f ((d - bndM k bias) / (36 - bndM k bias)) bias (k + 1)
theorem digR_stop (f : Nat) (d bias k : Int) (h : d < bndM k bias) : digR f d bias k = [d] := by
  cases f with
  | zero => rfl
  | succ f => rw [digR, if_pos h]
theorem next_bd {t d : Int} (ht : 1 ≤ t ∧ t ≤ 26) (h : t ≤ d) : 0 ≤ (d - t) / (36 - t) ∧ (d - t) / (36 - t) < d ∧ 0 ≤ (d - t) % (36 - t) ∧ (d - t) % (36 - t) < 36 - t := by
  have e1 : 0 ≤ (d - t) / (36 - t) := Int.ediv_nonneg (by omega) (by omega)
  have e2 : (d - t) / (36 - t) ≤ d - t := Int.ediv_le_self _ (by omega)
  have e3 := Int.emod_nonneg (d - t) (show (36 - t) ≠ 0 by omega)
  have e4 := Int.emod_lt_of_pos (d - t) (show 0 < 36 - t by omega)
  omega
theorem digR_go (f : Nat) (d bias k : Int) (h : ¬ d < bndM k bias) (hf : d.toNat ≤ f) : ∃ f', f = f' + 1 ∧ digR f d bias k = (bndM k bias + (d - bndM k bias) % (36 - bndM k bias)) :: digR f' ((d - bndM k bias) / (36 - bndM k bias)) bias (k + 1) ∧ ((d - bndM k bias) / (36 - bndM k bias)).toNat ≤ f' := by
  have hb := bnd_bd k bias
  cases f with
  | zero => omega
  | succ f =>
    have := next_bd hb (by omega : bndM k bias ≤ d)
    exact ⟨f, rfl, by rw [digR, if_neg h], by omega⟩
theorem digR_val (f : Nat) : ∀ (d bias k : Int), 0 ≤ d → d.toNat ≤ f → ∀ v ∈ digR f d bias k, 0 ≤ v ∧ v < 36 := by
  induction f with
  | zero =>
    intro d bias k h0 hf v hv
    simp [digR] at hv
    omega
  | succ f ih =>
    intro d bias k h0 hf v hv
    have hb := bnd_bd k bias
    by_cases h : d < bndM k bias
    · rw [digR, if_pos h] at hv
      simp at hv
      omega
    · have hn := next_bd hb (by omega : bndM k bias ≤ d)
      rw [digR, if_neg h] at hv
      rcases List.mem_cons.1 hv with rfl | hv
      · omega
      · exact ih _ bias (k + 1) hn.1 (by omega) v hv
/-- how a digit is written -/
def sgnM (v : Int) : Int := if v < 26 then 97 + v else 22 + v
/-- a number's digits, as they are written -/
def digM (d bias : Int) : List Int := (digR d.toNat d bias 0).map sgnM
theorem sgn_bd {v : Int} (h0 : 0 ≤ v) (h1 : v < 36) : 48 ≤ sgnM v ∧ sgnM v ≤ 122 ∧ sgnM v ≠ 45 := by unfold sgnM; split <;> omega
theorem dig_bd {d bias : Int} (h : 0 ≤ d) : ∀ b ∈ digM d bias, 48 ≤ b ∧ b ≤ 122 := by
  intro b hb
  obtain ⟨v, hv, rfl⟩ := List.mem_map.1 hb
  have := digR_val d.toNat d bias 0 h (Nat.le_refl _) v hv
  have := sgn_bd this.1 this.2
  omega
/-- no number has more than 40 digits -/
theorem digR_len (j : Nat) : ∀ (f : Nat) (d bias k : Int), 0 ≤ d → d < 10 ^ j → d.toNat ≤ f → (digR f d bias k).length ≤ j + 1 := by
  induction j with
  | zero =>
    intro f d bias k h0 h1 hf
    have hb := bnd_bd k bias
    rw [digR_stop f d bias k (by simp at h1; omega)]
    simp
  | succ j ih =>
    intro f d bias k h0 h1 hf
    have hb := bnd_bd k bias
    by_cases h : d < bndM k bias
    · rw [digR_stop f d bias k h]; simp
    · obtain ⟨f', rfl, e, hf'⟩ := digR_go f d bias k h hf
      have hn := next_bd hb (by omega : bndM k bias ≤ d)
      rw [e]
      have hp : (10 : Int) ^ (j + 1) = 10 ^ j * 10 := by rw [Int.pow_succ]
      have hlt : (d - bndM k bias) / (36 - bndM k bias) < 10 ^ j := by
        refine Int.ediv_lt_of_lt_mul (by omega) ?_
        have : (10 : Int) ^ j * 10 ≤ 10 ^ j * (36 - bndM k bias) := Int.mul_le_mul_of_nonneg_left (by omega) (Int.le_of_lt (Int.pow_pos (by omega)))
        omega
      have := ih f' _ bias (k + 1) hn.1 hlt hf'
      simp
      omega
theorem dig_len {d bias : Int} (h0 : 0 ≤ d) (h1 : d ≤ 2147483647) : (digM d bias).length ≤ 11 := by
  unfold digM
  rw [List.length_map]
  exact digR_len 10 _ d bias 0 h0 (by omega) (Nat.le_refl _)
end Go.Proofs.YtockmkcoehepiaaDoor

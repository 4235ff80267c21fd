/-
  What is proved here: plain mathematics of numbers written in digits, with noughts ahead (no program).
-/
import Derived.Test.YtlnehhfljjeifaaGreatDoorP0
namespace Go.Proofs.YtlnehhfljjeifaaGreatDoor

/-- the digit that counts d: capital letters -/
def dig (d : Nat) : UInt8 := if d < 10 then UInt8.ofNat (48 + d) else UInt8.ofNat (55 + d)
/-- a number's digits, by a base; f: as many digits at most -/
def digs (b : Nat) : Nat → Nat → List UInt8
  | 0, _ => []
  | f + 1, n => if n < b then [dig n] else digs b f (n / b) ++ [dig (n % b)]
/-- digits of a base that dig tells -/
structure Base (b : Nat) (ds : List UInt8) : Prop where
  len : ds.length = b
  two : 2 ≤ b
  at_ : ∀ d, d < b → Lib.indexByte ds (dig d) = d
  inv : ∀ c, 0 ≤ Lib.indexByte ds c → dig (Lib.indexByte ds c).toNat = c
set_option maxRecDepth 100000 in
theorem base16 : Base 16 hexD := by
  refine ⟨rfl, by omega, ?_, ?_⟩
  · intro d hd
    have : ∀ d : Fin 16, Lib.indexByte hexD (dig d.1) = d.1 := by decide
    exact this ⟨d, hd⟩
  · intro c hc
    have : ∀ c : Fin 256, 0 ≤ Lib.indexByte hexD (UInt8.ofNat c.1) → dig (Lib.indexByte hexD (UInt8.ofNat c.1)).toNat = UInt8.ofNat c.1 := by decide
    have h := this ⟨c.toNat, c.toNat_lt⟩
    simp only [UInt8.ofNat_toNat] at h
    exact h hc
set_option maxRecDepth 100000 in
theorem base10 : Base 10 decD := by
  refine ⟨rfl, by omega, ?_, ?_⟩
  · intro d hd
    have : ∀ d : Fin 10, Lib.indexByte decD (dig d.1) = d.1 := by decide
    exact this ⟨d, hd⟩
  · intro c hc
    have : ∀ c : Fin 256, 0 ≤ Lib.indexByte decD (UInt8.ofNat c.1) → dig (Lib.indexByte decD (UInt8.ofNat c.1)).toNat = UInt8.ofNat c.1 := by decide
    have h := this ⟨c.toNat, c.toNat_lt⟩
    simp only [UInt8.ofNat_toNat] at h
    exact h hc
theorem numLoop_append (ds x y : List UInt8) : ∀ n, numLoop ds (x ++ y) n = (numLoop ds x n).bind (numLoop ds y) := by
  induction x with
  | nil => intro n; rfl
  | cons c x ih =>
    intro n
    simp only [List.cons_append, numLoop]
    split
    · rfl
    · exact ih _
theorem numLoop_digs {b : Nat} {ds : List UInt8} (h : Base b ds) : ∀ f n, n < b ^ f → 0 < f → numLoop ds (digs b f n) 0 = some n := by
  intro f
  induction f with
  | zero => intro n _ h0; omega
  | succ f ih =>
    intro n hn _
    unfold digs
    split
    · rename_i hlt
      simp only [numLoop, h.at_ n hlt]
      rw [if_neg (by omega)]
      simp
    · rename_i hge
      have hb := h.two
      have hf : 0 < f := by
        rcases Nat.eq_zero_or_pos f with rfl | g
        · simp at hn; omega
        · exact g
      have hq : n / b < b ^ f := by rw [Nat.div_lt_iff_lt_mul (by omega), ← Nat.pow_succ]; exact hn
      have hr : n % b < b := Nat.mod_lt _ (by omega)
      rw [numLoop_append, ih _ hq hf]
      simp only [Option.bind_some, numLoop, h.at_ _ hr, h.len]
      rw [if_neg (by omega)]
      have := Nat.div_add_mod n b
      rw [Nat.mul_comm] at this
      simp; exact this
theorem digs_ne (b f n : Nat) (h : 0 < f) : digs b f n ≠ [] := by
  cases f with
  | zero => omega
  | succ f => unfold digs; split <;> simp
/-- noughts ahead count nothing -/
theorem numLoop_zeros {b : Nat} {ds : List UInt8} (h : Base b ds) (k : Nat) (x : List UInt8) : numLoop ds (List.replicate k 48 ++ x) 0 = numLoop ds x 0 := by
  induction k with
  | zero => rfl
  | succ k ih =>
    have h0 : Lib.indexByte ds 48 = 0 := h.at_ 0 (by have := h.two; omega)
    simp only [List.replicate_succ, List.cons_append, numLoop, h0]
    rw [if_neg (by omega)]
    simpa using ih
theorem digs_head {b : Nat} (hb : 2 ≤ b) (hb2 : b ≤ 16) : ∀ f n, 1 ≤ n → n < b ^ f → (digs b f n).headD 0 ≠ 48 := by
  have hd : ∀ d, 1 ≤ d → d < 16 → dig d ≠ 48 := by
    intro d h1 h2
    have : ∀ d : Fin 16, 1 ≤ d.1 → dig d.1 ≠ 48 := by decide
    exact this ⟨d, h2⟩ h1
  intro f
  induction f with
  | zero => intro n h1 h2; simp at h2; omega
  | succ f ih =>
    intro n h1 h2
    unfold digs
    split
    · exact hd n h1 (by omega)
    · rename_i hge
      have hf : 0 < f := by
        rcases Nat.eq_zero_or_pos f with rfl | g
        · simp at h2; omega
        · exact g
      have hq : n / b < b ^ f := by rw [Nat.div_lt_iff_lt_mul (by omega), ← Nat.pow_succ]; exact h2
      have hq1 : 1 ≤ n / b := (Nat.le_div_iff_mul_le (by omega)).2 (by omega)
      have := ih (n / b) hq1 hq
      cases hx : digs b f (n / b) with
      | nil => exact absurd hx (digs_ne b f _ hf)
      | cons c t => rw [hx] at this; exact this
theorem digs_len {b : Nat} (hb : 2 ≤ b) : ∀ f k n, 0 < k → k ≤ f → n < b ^ k → (digs b f n).length ≤ k := by
  intro f
  induction f with
  | zero => intro k n h1 h2; omega
  | succ f ih =>
    intro k n h1 h2 hn
    unfold digs
    split
    · simp; omega
    · rename_i hge
      cases k with
      | zero => omega
      | succ k =>
        have hk : 0 < k := by
          rcases Nat.eq_zero_or_pos k with rfl | g
          · simp at hn; omega
          · exact g
        have hq : n / b < b ^ k := by rw [Nat.div_lt_iff_lt_mul (by omega), ← Nat.pow_succ]; exact hn
        have := ih k (n / b) hk (by omega) hq
        simp; omega
/-- any text of digits is its number's digits, with noughts ahead -/
theorem num_inv {b : Nat} {ds : List UInt8} (h : Base b ds) (f : Nat) : ∀ k x n, x.length = k → 0 < k → k ≤ f → numLoop ds x 0 = some n → n < b ^ k ∧ (digs b f n).length ≤ k ∧ x = List.replicate (k - (digs b f n).length) 48 ++ digs b f n := by
  have hb := h.two
  have h48 : dig 0 = 48 := rfl
  intro k
  induction k with
  | zero => intro x n _ h0; omega
  | succ k ih =>
    intro x n hl _ hf hn
    obtain ⟨y, c, rfl⟩ : ∃ y c, x = y ++ [c] := by
      rcases List.eq_nil_or_concat x with rfl | ⟨y, c, rfl⟩
      · simp at hl
      · exact ⟨y, c, by simp⟩
    have hyl : y.length = k := by simpa using hl
    rw [numLoop_append] at hn
    cases hy : numLoop ds y 0 with
    | none => rw [hy] at hn; simp at hn
    | some m =>
      rw [hy] at hn
      simp only [Option.bind_some, numLoop, h.len] at hn
      split at hn
      · cases hn
      · rename_i hge
        have hix := indexByte_lt ds c
        have hd : (Lib.indexByte ds c).toNat < b := by
          rcases hix with g | g
          · rw [h.len] at g; omega
          · have := h.len; rw [g] at this; simp at this; omega
        have hc := h.inv c (by omega)
        generalize (Lib.indexByte ds c).toNat = d at *
        have hne : n = m * b + d := by simpa using hn.symm
        obtain ⟨f, rfl⟩ : ∃ f', f = f' + 1 := ⟨f - 1, by omega⟩
        have hdiv : n / b = m := by rw [hne, Nat.mul_comm, Nat.mul_add_div (by omega), Nat.div_eq_of_lt hd]; omega
        have hmod : n % b = d := by rw [hne, Nat.mul_comm, Nat.mul_add_mod, Nat.mod_eq_of_lt hd]
        rcases Nat.eq_zero_or_pos k with rfl | hk
        · have hy0 : y = [] := List.eq_nil_of_length_eq_zero hyl
          subst hy0
          have hm0 : m = 0 := by simpa [numLoop] using hy.symm
          subst hm0
          have hnb : n < b := by omega
          have e : digs b (f + 1) n = [dig n] := by unfold digs; rw [if_pos hnb]
          have hnd : n = d := by omega
          rw [e]
          refine ⟨by simpa using hnb, by simp, by rw [hnd, hc]; simp⟩
        · obtain ⟨h1, h2, h3⟩ := ih y m hyl hk (by omega) hy
          have hpow : n < b ^ (k + 1) := by rw [hne]; exact digit_step _ _ _ _ hd h1
          refine ⟨hpow, ?_⟩
          by_cases hnb : n < b
          · have e : digs b (f + 1) n = [dig n] := by unfold digs; rw [if_pos hnb]
            have hm0 : m = 0 := by rw [← hdiv]; exact Nat.div_eq_of_lt hnb
            have hnd : n = d := by rw [hm0] at hne; omega
            rw [e]
            refine ⟨by simp, ?_⟩
            have e2 : digs b (f + 1) m = [48] := by rw [hm0]; unfold digs; rw [if_pos (by omega), h48]
            rw [e2] at h3
            rw [h3, hnd, hc]
            have : k - [(48 : UInt8)].length + 1 = k := by simp; omega
            have e4 : List.replicate (k - [(48 : UInt8)].length) (48 : UInt8) ++ [48] = List.replicate k 48 := by
              rw [← List.replicate_succ', this]
            rw [e4]; simp
          · have e : digs b (f + 1) n = digs b f m ++ [dig d] := by
              rw [digs, if_neg hnb, hdiv, hmod]
            have hm1 : 1 ≤ m := by
              rcases Nat.eq_zero_or_pos m with rfl | g
              · omega
              · exact g
            have hfe : ∀ f' , k ≤ f' → digs b (f' + 1) m = digs b f' m := by
              intro f' hf'
              have key : ∀ g k' m', 0 < k' → k' ≤ g → m' < b ^ k' → digs b (g + 1) m' = digs b g m' := by
                intro g
                induction g with
                | zero => intro k' m' h0 h1'; omega
                | succ g ihg =>
                  intro k' m' h0 h1' hm'
                  rw [digs]
                  conv => rhs; rw [digs]
                  split
                  · rfl
                  · rename_i hge'
                    cases k' with
                    | zero => omega
                    | succ k' =>
                      have hk'' : 0 < k' := by
                        rcases Nat.eq_zero_or_pos k' with rfl | g'
                        · simp at hm'; omega
                        · exact g'
                      rw [ihg k' (m' / b) hk'' (by omega) (by rw [Nat.div_lt_iff_lt_mul (by omega), ← Nat.pow_succ]; exact hm')]
              exact key f' k m hk hf' h1
            have e3 := hfe f (by omega)
            rw [e3] at h2 h3
            rw [e]
            refine ⟨by simp; omega, ?_⟩
            conv => lhs; rw [h3]
            rw [hc]
            simp
end Go.Proofs.YtlnehhfljjeifaaGreatDoor

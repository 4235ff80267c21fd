/-
  What is proved here: plain mathematics of a table's text: it is parsed to that table, and what is parsed is the text of what is told (no program).
-/
import Derived.Test.YtlnehhfljjeifaaGreatDoorX0
namespace Go.Proofs.YtlnehhfljjeifaaGreatDoor

/-- a rune's number, in four digits at least -/
def hexT (n : Nat) : List UInt8 := List.replicate (4 - (digs 16 8 n).length) 48 ++ digs 16 8 n
def decT (n : Nat) : List UInt8 := digs 10 8 n
theorem numb_hex {n : Nat} (h : n < 16 ^ 6) : numb hexD 4 6 (hexT n) = some n := by
  have hl := digs_len (b := 16) (by omega) 8 6 n (by omega) (by omega) h
  have hne := digs_ne 16 8 n (by omega)
  have hlen : 0 < (digs 16 8 n).length := List.length_pos_iff.2 hne
  have hn8 : n < 16 ^ 8 := Nat.lt_of_lt_of_le h (by decide)
  unfold numb hexT
  rw [if_neg, numLoop_zeros base16, numLoop_digs base16 8 n hn8 (by omega)]
  rintro (g | g | ⟨g1, g2⟩)
  · simp at g; omega
  · simp at g; omega
  · have h5 : 4 < (digs 16 8 n).length := by simp at g1; omega
    have e0 : 4 - (digs 16 8 n).length = 0 := by omega
    rw [e0] at g2
    have hn1 : 1 ≤ n := by
      rcases Nat.eq_zero_or_pos n with rfl | g
      · have : (digs 16 8 0).length = 1 := by decide
        omega
      · exact g
    exact digs_head (b := 16) (by omega) (by omega) 8 n hn1 hn8 (by simpa [hexD] using g2)
theorem numb_dec {n : Nat} (h : n < 10 ^ 7) : numb decD 1 7 (decT n) = some n := by
  have hl := digs_len (b := 10) (by omega) 8 7 n (by omega) (by omega) h
  have hne := digs_ne 10 8 n (by omega)
  have hlen : 0 < (digs 10 8 n).length := List.length_pos_iff.2 hne
  have hn8 : n < 10 ^ 8 := Nat.lt_of_lt_of_le h (by decide)
  unfold numb decT
  rw [if_neg, numLoop_digs base10 8 n hn8 (by omega)]
  rintro (g | g | ⟨g1, g2⟩)
  · omega
  · omega
  · have hn1 : 1 ≤ n := by
      rcases Nat.eq_zero_or_pos n with rfl | g
      · have : (digs 10 8 0).length = 1 := by decide
        omega
      · exact g
    exact digs_head (b := 10) (by omega) (by omega) 8 n hn1 hn8 (by simpa [decD] using g2)
theorem rep_head {k : Nat} {x : List UInt8} (h : 0 < k) : (List.replicate k 48 ++ x).headD 0 = 48 := by
  cases k with
  | zero => omega
  | succ k => rfl
theorem hex_numb {x : List UInt8} {n : Nat} (h : numb hexD 4 6 x = some n) : x = hexT n ∧ n < 16 ^ 6 := by
  unfold numb at h
  split at h
  · cases h
  · rename_i hg
    obtain ⟨h1, h2, h3⟩ := num_inv base16 8 x.length x n rfl (by omega) (by omega) h
    have hp : n < 16 ^ 6 := Nat.lt_of_lt_of_le h1 (Nat.pow_le_pow_right (by omega) (by omega))
    refine ⟨?_, hp⟩
    unfold hexT
    rcases Nat.lt_or_ge 4 x.length with g | g
    · have hz : x.length - (digs 16 8 n).length = 0 := by
        rcases Nat.eq_zero_or_pos (x.length - (digs 16 8 n).length) with e | e
        · exact e
        · exfalso
          apply hg
          refine .inr (.inr ⟨g, ?_⟩)
          rw [h3, rep_head e]; rfl
      have hz2 : 4 - (digs 16 8 n).length = 0 := by omega
      rw [hz] at h3; rw [hz2]; exact h3
    · have e4 : x.length = 4 := by omega
      rw [← e4]; exact h3
theorem dec_numb {x : List UInt8} {n : Nat} (h : numb decD 1 7 x = some n) : x = decT n ∧ n < 10 ^ 7 := by
  unfold numb at h
  split at h
  · cases h
  · rename_i hg
    obtain ⟨h1, h2, h3⟩ := num_inv base10 8 x.length x n rfl (by omega) (by omega) h
    have hp : n < 10 ^ 7 := Nat.lt_of_lt_of_le h1 (Nat.pow_le_pow_right (by omega) (by omega))
    refine ⟨?_, hp⟩
    unfold decT
    have hlen : 0 < (digs 10 8 n).length := List.length_pos_iff.2 (digs_ne 10 8 n (by omega))
    have hz : x.length - (digs 10 8 n).length = 0 := by
      rcases Nat.lt_or_ge 1 x.length with g | g
      · rcases Nat.eq_zero_or_pos (x.length - (digs 10 8 n).length) with e | e
        · exact e
        · exfalso
          apply hg
          refine .inr (.inr ⟨g, ?_⟩)
          rw [h3, rep_head e]; rfl
      · omega
    rw [hz] at h3; exact h3
/-- a line, without its end -/
def lineT (r : Rg) : List UInt8 := hexT r.lo.toNat ++ (if r.hi = r.lo then [] else [46, 46] ++ hexT r.hi.toNat) ++ [32] ++ decT r.val.toNat
def textT (l : List Rg) : List UInt8 := l.flatMap fun r => lineT r ++ [10]
theorem dig_mem (d : Nat) (h : d < 16) : dig d ∈ hexD := by
  have : ∀ d : Fin 16, dig d.1 ∈ hexD := by decide
  exact this ⟨d, h⟩
theorem digs_mem {b : Nat} (hb : b ≤ 16) (hb0 : 0 < b) : ∀ f n c, c ∈ digs b f n → c ∈ hexD := by
  intro f
  induction f with
  | zero => intro n c h; simp [digs] at h
  | succ f ih =>
    intro n c h
    unfold digs at h
    split at h
    · simp at h; rw [h]; exact dig_mem n (by omega)
    · rcases List.mem_append.1 h with h | h
      · exact ih _ _ h
      · simp at h; rw [h]; exact dig_mem _ (by have := Nat.mod_lt n hb0; omega)
theorem hexT_mem {n : Nat} {c : UInt8} (h : c ∈ hexT n) : c ∈ hexD := by
  rcases List.mem_append.1 h with h | h
  · rw [(List.mem_replicate.1 h).2]; decide
  · exact digs_mem (by omega) (by omega) 8 n c h
theorem decT_mem {n : Nat} {c : UInt8} (h : c ∈ decT n) : c ∈ hexD := digs_mem (by omega) (by omega) 8 n c h
theorem lineT_mem {r : Rg} {c : UInt8} (h : c ∈ lineT r) : c ∈ hexD ∨ c = 46 ∨ c = 32 := by
  unfold lineT at h
  simp only [List.mem_append] at h
  rcases h with ((h | h) | h) | h
  · exact .inl (hexT_mem h)
  · split at h
    · simp at h
    · rcases List.mem_append.1 h with h | h
      · simp at h; exact .inr (.inl h)
      · exact .inl (hexT_mem h)
  · simp at h; exact .inr (.inr h)
  · exact .inl (decT_mem h)
/-- cut at a byte that does not stand ahead of it -/
theorem index_skip (x : List UInt8) (c : UInt8) (y : List UInt8) (h : c ∉ x) : Lib.index (x ++ c :: y) [c] = x.length := by
  induction x with
  | nil => simp [Lib.index]
  | cons a x ih =>
    have ha : a ≠ c := fun e => h (by simp [e])
    have hx : c ∉ x := fun e => h (by simp [e])
    have hp : ([c] : List UInt8).isPrefixOf (a :: (x ++ c :: y)) = false := by simp [List.isPrefixOf, Ne.symm ha]
    simp only [List.cons_append, Lib.index, hp, ih hx]
    simp
theorem cut_at (x : List UInt8) (c : UInt8) (y : List UInt8) (h : c ∉ x) : Lib.cut (x ++ c :: y) [c] = (x, y, true) := by
  unfold Lib.cut
  rw [index_skip x c y h, if_pos (by omega)]
  simp
theorem index_skip2 (x y : List UInt8) (c : UInt8) (h : c ∉ x) : Lib.index (x ++ c :: c :: y) [c, c] = x.length := by
  induction x with
  | nil => simp [Lib.index]
  | cons a x ih =>
    have ha : a ≠ c := fun e => h (by simp [e])
    have hx : c ∉ x := fun e => h (by simp [e])
    have hp : ([c, c] : List UInt8).isPrefixOf (a :: (x ++ c :: c :: y)) = false := by simp [List.isPrefixOf, Ne.symm ha]
    simp only [List.cons_append, Lib.index, hp, ih hx]
    simp
theorem cut_at2 (x y : List UInt8) (c : UInt8) (h : c ∉ x) : Lib.cut (x ++ c :: c :: y) [c, c] = (x, y, true) := by
  unfold Lib.cut
  rw [index_skip2 x y c h, if_pos (by omega)]
  simp
theorem index_occ (s sub : List UInt8) (h : 0 ≤ Lib.index s sub) : s = s.take (Lib.index s sub).toNat ++ sub ++ s.drop ((Lib.index s sub).toNat + sub.length) := by
  induction s with
  | nil =>
    cases sub with
    | nil => simp
    | cons a t => simp [Lib.index] at h
  | cons a s ih =>
    unfold Lib.index at h ⊢
    split
    · rename_i hp
      obtain ⟨t, ht⟩ := List.isPrefixOf_iff_prefix.1 hp
      simp
      rw [← ht]; simp
    · rename_i hp
      rw [if_neg hp] at h
      split at h
      · omega
      · rename_i hne
        have hge := Lib.index_ge s sub
        have hn : Lib.index s sub ≠ -1 := by simpa using hne
        rw [if_neg hne]
        have e : (Lib.index s sub + 1).toNat = (Lib.index s sub).toNat + 1 := by omega
        rw [e, List.take_succ_cons, show (Lib.index s sub).toNat + 1 + sub.length = ((Lib.index s sub).toNat + sub.length) + 1 by omega, List.drop_succ_cons]
        have := ih (by omega)
        simp only [List.cons_append]
        congr 1
theorem cut_back (s sep : List UInt8) (x y : List UInt8) (b : Bool) (h : Lib.cut s sep = (x, y, b)) : (b = true ∧ s = x ++ sep ++ y) ∨ (b = false ∧ x = s ∧ y = []) := by
  unfold Lib.cut at h
  split at h
  · rename_i h0
    left
    obtain ⟨rfl, rfl, rfl⟩ : s.take (Lib.index s sep).toNat = x ∧ s.drop ((Lib.index s sep).toNat + sep.length) = y ∧ true = b := by simpa using h
    exact ⟨rfl, index_occ s sep h0⟩
  · right
    obtain ⟨rfl, rfl, rfl⟩ : s = x ∧ [] = y ∧ false = b := by simpa using h
    exact ⟨rfl, rfl, rfl⟩
end Go.Proofs.YtlnehhfljjeifaaGreatDoor

/-
  What is proved here: plain facts: how the reference finds the rune at a place, or what is wrong there, gives what the program reckons. No program is in it.
-/
import Derived.Test.YteflghhpdikidaaDoorThere0
namespace Go.Proofs.YteflghhpdikidaaDoor.Utf

/-- the rune that bytes would be, by their bits; -1: none -/
def val : List UInt8 → Int
  | [] => -1
  | b :: t => if formWidth b.toNat = (t.length : Int) + 1 then (if t.all cont then acc (leadBits b.toNat (formWidth b.toNat)) t else -1) else -1
/-- is one of the runes from a to b right, with a form of n bytes? -/
def lo (n : Int) : Int := if n = 3 then 2048 else if n = 4 then 65536 else 128
def hi (n : Int) : Int := if n = 3 then 65535 else if n = 4 then 1114111 else 2047
def clip (a n : Int) : Int := if 55296 ≤ (if a < lo n then lo n else a) ∧ (if a < lo n then lo n else a) ≤ 57343 then 57344 else (if a < lo n then lo n else a)
def someB (a b n : Int) : Bool := decide (clip a n ≤ (if hi n < b then hi n else b))

theorem code_cases (l : List UInt8) : (first l).2.2 = 0 ∨ first l = (0, 0, 1) ∨ first l = (0, 0, 2) := by
  cases l with
  | nil => exact .inr (.inl rfl)
  | cons b t =>
    rw [first]
    (repeat' split) <;> simp

theorem next_found {l : List UInt8} {n : Nat} {r : Int} (hr : 0 < width r) (hf : (form r).map u8 = l.take n) (hn : n ≤ l.length) : first l = (r, (n : Int), 0) := by
  have h := first_of_form hr (l.drop n)
  rw [hf, List.take_append_drop] at h
  have hl := form_len hr
  have hl2 : (form r).length = n := by
    have := congrArg List.length hf
    rw [List.length_map, List.length_take] at this
    omega
  rw [h, ← hl, hl2]

theorem next_val {l : List UInt8} {r n : Int} (h : first l = (r, n, 0)) : val (l.take n.toNat) = r ∧ 0 ≤ r ∧ 0 < width r ∧ (form r).map u8 = l.take n.toNat := by
  have hw := first_width h
  refine ⟨?_, hw.2.2.2.2, by omega, first_form h⟩
  cases l with
  | nil => simp [first] at h
  | cons b t =>
    rw [first] at h
    split at h
    · simp at h
    · rename_i h0
      split at h
      · simp at h
      · rename_i hc
        split at h
        · simp at h
        · split at h
          · simp at h
          · rename_i hlt
            simp only [Prod.mk.injEq] at h
            obtain ⟨hr, hn, -⟩ := h
            have hfw := formWidth_le b.toNat
            have hlen : (t.take ((formWidth b.toNat).toNat - 1)).length ≤ (formWidth b.toNat).toNat - 1 := by rw [List.length_take]; omega
            have htk : (b :: t).take n.toNat = b :: t.take ((formWidth b.toNat).toNat - 1) := by
              rw [← hn, show (formWidth b.toNat).toNat = ((formWidth b.toNat).toNat - 1) + 1 by omega]; simp
            rw [htk, val, if_pos (by omega), if_pos (by simpa using hc), hr]

theorem all_rep (m : Nat) (c : UInt8) (h : cont c = true) : (List.replicate m c).all cont = true := by
  induction m with
  | zero => rfl
  | succ m ih => rw [List.replicate_succ, List.all_cons, h, ih]; rfl
theorem acc_app (r : Int) (a b : List UInt8) : acc r (a ++ b) = acc (acc r a) b := by simp [acc]
theorem pad_low (r : Int) (m : Nat) (hm : m = 1 ∨ m = 2 ∨ m = 3) : acc r (List.replicate m 128) = r * pw m := by
  rcases hm with rfl | rfl | rfl <;> simp [acc, pw, List.replicate] <;> omega
theorem pad_high (r : Int) (m : Nat) (hm : m = 1 ∨ m = 2 ∨ m = 3) : acc r (List.replicate m 191) = r * pw m + (pw m - 1) := by
  rcases hm with rfl | rfl | rfl <;> simp [acc, pw, List.replicate] <;> omega
theorem val_pad (b : UInt8) (t : List UInt8) (c : UInt8) (hc : cont c = true) (m : Nat) :
    val ((b :: t) ++ List.replicate m c) = if formWidth b.toNat = (t.length : Int) + 1 + m ∧ t.all cont = true then acc (acc (leadBits b.toNat (formWidth b.toNat)) t) (List.replicate m c) else -1 := by
  rw [List.cons_append, val, List.length_append, List.length_replicate, List.all_append, all_rep m c hc, Bool.and_true, acc_app]
  by_cases h1 : formWidth b.toNat = (t.length : Int) + 1 + m
  · by_cases h2 : t.all cont = true
    · rw [if_pos (by omega), if_pos h2, if_pos ⟨h1, h2⟩]
    · rw [if_pos (by omega), if_neg h2, if_neg (fun h => h2 h.2)]
  · rw [if_neg (by omega), if_neg (fun h => h1 h.1)]

theorem width2 (x : Int) : width x = 2 ↔ 128 ≤ x ∧ x < 2048 := by unfold width; (repeat' split) <;> omega
theorem width3 (x : Int) : width x = 3 ↔ (2048 ≤ x ∧ x < 55296) ∨ (57344 ≤ x ∧ x < 65536) := by unfold width; (repeat' split) <;> omega
theorem width4 (x : Int) : width x = 4 ↔ 65536 ≤ x ∧ x ≤ 1114111 := by unfold width; (repeat' split) <;> omega
theorem some2 (a b : Int) (h : a ≤ b) : someB a b 2 = true ↔ a ≤ 2047 ∧ 128 ≤ b := by
  simp only [someB, clip, show lo 2 = 128 from rfl, show hi 2 = 2047 from rfl, decide_eq_true_eq]
  (repeat' split) <;> omega
theorem some3 (a b : Int) (h : a ≤ b) : someB a b 3 = true ↔ (a < 55296 ∧ 2048 ≤ b) ∨ (a ≤ 65535 ∧ 57344 ≤ b) := by
  simp only [someB, clip, show lo 3 = 2048 from rfl, show hi 3 = 65535 from rfl, decide_eq_true_eq]
  (repeat' split) <;> omega
theorem some4 (a b : Int) (h : a ≤ b) : someB a b 4 = true ↔ a ≤ 1114111 ∧ 65536 ≤ b := by
  simp only [someB, clip, show lo 4 = 65536 from rfl, show hi 4 = 1114111 from rfl, decide_eq_true_eq]
  (repeat' split) <;> omega

theorem some_ltr (r n m : Int) (h0 : 0 ≤ r) (hn : n = 2 ∨ n = 3 ∨ n = 4) (hm : m = 1 ∨ m = 2 ∨ m = 3) (hmn : m < n) (hb : r * pw m < 2097152) :
    someB (r * pw m) (r * pw m + (pw m - 1)) n = ltr r n m := by
  unfold ltr
  rw [Bool.eq_iff_iff]
  simp only [Bool.or_eq_true, beq_iff_eq]
  rcases hn with rfl | rfl | rfl <;> rcases hm with rfl | rfl | rfl <;> simp only [show pw 1 = 64 from rfl, show pw 2 = 4096 from rfl, show pw 3 = 262144 from rfl] at * <;> try omega
  · rw [some2 _ _ (by omega), width2, width2]; omega
  · rw [some3 _ _ (by omega), width3, width3]; omega
  · rw [some3 _ _ (by omega), width3, width3]; omega
  · rw [some4 _ _ (by omega), width4, width4]; omega
  · rw [some4 _ _ (by omega), width4, width4]; omega
  · rw [some4 _ _ (by omega), width4, width4]; omega

/-- some bytes behind a text make a right rune's form of n bytes of it: the two ends of what they may be -/
def endsAt (l : List UInt8) (n : Nat) : Bool :=
  decide (0 ≤ val (l ++ List.replicate (n - l.length) 128)) && decide (0 ≤ val (l ++ List.replicate (n - l.length) 191)) && someB (val (l ++ List.replicate (n - l.length) 128)) (val (l ++ List.replicate (n - l.length) 191)) n
theorem endsAt_eq {b : UInt8} {t : List UInt8} {n : Nat} (h1 : t.length + 1 < n) (h2 : n ≤ 4) :
    endsAt (b :: t) n = (decide (formWidth b.toNat = n) && t.all cont && ltr (acc (leadBits b.toNat (formWidth b.toNat)) t) n ((n : Int) - 1 - t.length)) := by
  show (decide (0 ≤ val ((b :: t) ++ List.replicate (n - (t.length + 1)) 128)) && decide (0 ≤ val ((b :: t) ++ List.replicate (n - (t.length + 1)) 191)) && someB (val ((b :: t) ++ List.replicate (n - (t.length + 1)) 128)) (val ((b :: t) ++ List.replicate (n - (t.length + 1)) 191)) n) = _
  rw [val_pad b t 128 (by decide), val_pad b t 191 (by decide)]
  by_cases hf : formWidth b.toNat = (n : Int)
  · by_cases hc : t.all cont = true
    · have hm : n - (t.length + 1) = 1 ∨ n - (t.length + 1) = 2 ∨ n - (t.length + 1) = 3 := by omega
      have hcond : formWidth b.toNat = (t.length : Int) + 1 + ((n - (t.length + 1) : Nat) : Int) ∧ t.all cont = true := ⟨by omega, hc⟩
      rw [if_pos hcond, if_pos hcond, pad_low _ _ hm, pad_high _ _ hm]
      have hp := acc_pw b t (by omega) (by omega)
      have em : (n : Int) - 1 - (t.length : Int) = ((n - (t.length + 1) : Nat) : Int) := by omega
      rw [show formWidth b.toNat - 1 - (t.length : Int) = ((n - (t.length + 1) : Nat) : Int) by omega] at hp
      rw [em, hc]
      generalize acc (leadBits b.toNat (formWidth b.toNat)) t = r at *
      generalize ((n - (t.length + 1) : Nat) : Int) = m at *
      have hmm : m = 1 ∨ m = 2 ∨ m = 3 := by omega
      have hpw : 1 ≤ pw m := by rcases hmm with rfl | rfl | rfl <;> decide
      have h3 : 0 ≤ r * pw m := Int.mul_nonneg hp.1 (by omega)
      rw [some_ltr r n m hp.1 (by omega) hmm (by omega) hp.2]
      simp [h3, hf]
      omega
    · have hcond : ¬ (formWidth b.toNat = (t.length : Int) + 1 + ((n - (t.length + 1) : Nat) : Int) ∧ t.all cont = true) := fun h => hc h.2
      have hc' : t.all cont = false := by simpa using hc
      rw [if_neg hcond, hc']
      simp
  · have hcond : ¬ (formWidth b.toNat = (t.length : Int) + 1 + ((n - (t.length + 1) : Nat) : Int) ∧ t.all cont = true) := fun h => hf (by omega)
    rw [if_neg hcond]
    simp [hf]

/-- where no form stands: which of the two it is -/
theorem code_ends {l : List UInt8} (hl : l ≠ []) (h : (first l).2.2 ≠ 0) : first l = (0, 0, 2) ↔ ∃ n, l.length < n ∧ n ≤ 4 ∧ endsAt l n = true := by
  cases l with
  | nil => exact absurd rfl hl
  | cons b t =>
    have hfw := formWidth_le b.toNat
    rw [List.length_cons]
    constructor
    · intro h2
      rw [first] at h2
      split at h2
      · simp at h2
      · rename_i h0
        split at h2
        · simp at h2
        · rename_i hc
          split at h2
          · simp at h2
          · rename_i hl
            split at h2
            · rename_i hlt
              have hle : t.length ≤ (formWidth b.toNat).toNat - 1 := by
                rw [List.length_take] at hlt
                omega
              rw [List.take_of_length_le hle] at hc hl hlt
              refine ⟨(formWidth b.toNat).toNat, by omega, by omega, ?_⟩
              rw [endsAt_eq (by omega) (by omega)]
              have e : ((formWidth b.toNat).toNat : Int) = formWidth b.toNat := by omega
              simp only [e]
              simp only [Bool.not_eq_false] at hc hl
              simp [hc, hl]
            · rename_i hlt
              exfalso
              rw [first, if_neg h0, if_neg hc, if_neg hl, if_neg hlt] at h
              exact h rfl
    · rintro ⟨n, h1, h2, he⟩
      rw [endsAt_eq h1 h2] at he
      simp only [Bool.and_eq_true, decide_eq_true_eq] at he
      obtain ⟨⟨e1, e2⟩, e3⟩ := he
      have hle : t.length ≤ (formWidth b.toNat).toNat - 1 := by omega
      rw [first, List.take_of_length_le hle, if_neg (by omega), e2, if_neg (by decide)]
      rw [e1] at e3 ⊢
      rw [e3, if_neg (by decide), if_pos (by omega)]
end Go.Proofs.YteflghhpdikidaaDoor.Utf

/-
  What is proved here: plain facts: what was decoded is encoded to the same bytes; what was encoded is decoded to the same runes. No program is in it.
-/
import Derived.Test.YteflghhpdikidaaDoorDec
namespace Go.Proofs.YteflghhpdikidaaDoor.Utf

/-- a number as a byte -/
def u8 (x : Int) : UInt8 := UInt8.ofNat x.toNat
theorem u8_eq {x : Int} {b : UInt8} (h : x = (b.toNat : Int)) : u8 x = b := by
  subst h; simp [u8]
theorem u8_toNat {x : Int} (h0 : 0 ≤ x) (h1 : x < 256) : ((u8 x).toNat : Int) = x := by
  have : x.toNat < 256 := by omega
  simp [u8, UInt8.toNat_ofNat']
  omega
theorem cont_iff (c : UInt8) : cont c = true ↔ 128 ≤ c.toNat ∧ c.toNat < 192 := by simp [cont]
theorem width_cases (r : Int) : (width r = 0) ∨ (width r = 1 ∧ 0 ≤ r ∧ r < 128) ∨ (width r = 2 ∧ 128 ≤ r ∧ r < 2048) ∨ (width r = 3 ∧ 2048 ≤ r ∧ r < 65536) ∨ (width r = 4 ∧ 65536 ≤ r ∧ r ≤ 1114111) := by
  unfold width; (repeat' split) <;> omega
theorem form1 {r : Int} (h1 : r < 128) : form r = [r] := if_pos h1
theorem form2 {r : Int} (h0 : 128 ≤ r) (h1 : r < 2048) : form r = [192 + r / 64, 128 + r % 64] := (if_neg (by omega)).trans (if_pos h1)
theorem form3 {r : Int} (h0 : 2048 ≤ r) (h1 : r < 65536) : form r = [224 + r / 4096, 128 + r / 64 % 64, 128 + r % 64] := (if_neg (by omega)).trans ((if_neg (by omega)).trans (if_pos h1))
theorem form4 {r : Int} (h0 : 65536 ≤ r) : form r = [240 + r / 262144, 128 + r / 4096 % 64, 128 + r / 64 % 64, 128 + r % 64] := (if_neg (by omega)).trans ((if_neg (by omega)).trans (if_neg (by omega)))
theorem form_len {r : Int} (h : 0 < width r) : ((form r).length : Int) = width r := by
  rcases width_cases r with g | ⟨g, h0, h1⟩ | ⟨g, h0, h1⟩ | ⟨g, h0, h1⟩ | ⟨g, h0, h1⟩
  · omega
  · rw [form1 h1, g]; rfl
  · rw [form2 h0 h1, g]; rfl
  · rw [form3 h0 h1, g]; rfl
  · rw [form4 h0, g]; rfl

theorem lead_cases (b : UInt8) : (formWidth b.toNat = 0) ∨ (formWidth b.toNat = 1 ∧ b.toNat < 128 ∧ leadBits b.toNat 1 = b.toNat) ∨ (formWidth b.toNat = 2 ∧ 192 ≤ b.toNat ∧ b.toNat < 224 ∧ leadBits b.toNat 2 = b.toNat - 192) ∨
    (formWidth b.toNat = 3 ∧ 224 ≤ b.toNat ∧ b.toNat < 240 ∧ leadBits b.toNat 3 = b.toNat - 224) ∨ (formWidth b.toNat = 4 ∧ 240 ≤ b.toNat ∧ b.toNat < 248 ∧ leadBits b.toNat 4 = b.toNat - 240) := by
  have hb := b.toNat_lt
  generalize b.toNat = x at *
  have fw : ∀ n : Int, (if 248 ≤ (x : Int) then (0 : Int) else if 240 ≤ (x : Int) then 4 else if 224 ≤ (x : Int) then 3 else if 192 ≤ (x : Int) then 2 else if (x : Int) < 128 then 1 else 0) = n → formWidth x = n := fun n h => h
  have hr : x < 128 ∨ (128 ≤ x ∧ x < 192) ∨ (192 ≤ x ∧ x < 224) ∨ (224 ≤ x ∧ x < 240) ∨ (240 ≤ x ∧ x < 248) ∨ 248 ≤ x := by omega
  rcases hr with h | h | h | h | h | h
  · exact .inr (.inl ⟨fw _ (by rw [if_neg (by omega), if_neg (by omega), if_neg (by omega), if_neg (by omega), if_pos (by omega)]), h, by simp [leadBits]⟩)
  · exact .inl (fw _ (by rw [if_neg (by omega), if_neg (by omega), if_neg (by omega), if_neg (by omega), if_neg (by omega)]))
  · exact .inr (.inr (.inl ⟨fw _ (by rw [if_neg (by omega), if_neg (by omega), if_neg (by omega), if_pos (by omega)]), h.1, h.2, by simp only [leadBits, if_true]; omega⟩))
  · exact .inr (.inr (.inr (.inl ⟨fw _ (by rw [if_neg (by omega), if_neg (by omega), if_pos (by omega)]), h.1, h.2, by simp [leadBits]; omega⟩)))
  · exact .inr (.inr (.inr (.inr ⟨fw _ (by rw [if_neg (by omega), if_pos (by omega)]), h.1, h.2, by simp [leadBits]; omega⟩)))
  · exact .inl (fw _ (by rw [if_pos (by omega)]))

theorem len_two {u : List UInt8} (h : u.length = 2) : ∃ c d, u = [c, d] := by
  match u, h with
  | [c, d], _ => exact ⟨c, d, rfl⟩
theorem len_three {u : List UInt8} (h : u.length = 3) : ∃ c d e, u = [c, d, e] := by
  match u, h with
  | [c, d, e], _ => exact ⟨c, d, e, rfl⟩
/-- what a text that begins with a right rune's form begins with -/
theorem first_form {l : List UInt8} {r n : Int} (h : first l = (r, n, 0)) : (form r).map u8 = l.take n.toNat := by
  have hw := first_width h
  cases l with
  | nil => simp [first] at h
  | cons b t =>
    rw [first] at h
    have hlen : (t.take ((formWidth b.toNat).toNat - 1)).length ≤ (formWidth b.toNat).toNat - 1 := by rw [List.length_take]; omega
    split at h
    · simp at h
    · rename_i h0
      split at h
      · simp at h
      · rename_i hc
        split at h
        · simp at h
        · split at h
          · simp at h
          · rename_i hlt
            simp only [Prod.mk.injEq] at h
            obtain ⟨hr, hn, -⟩ := h
            have hc : (t.take ((formWidth b.toNat).toNat - 1)).all cont = true := by simpa using hc
            have htk : (b :: t).take n.toNat = b :: t.take ((formWidth b.toNat).toNat - 1) := by
              rw [← hn, show (formWidth b.toNat).toNat = ((formWidth b.toNat).toNat - 1) + 1 by omega]; simp
            rw [htk]
            generalize hu : t.take ((formWidth b.toNat).toNat - 1) = u at *
            rcases lead_cases b with g | ⟨g, g1, g2⟩ | ⟨g, g1, g2, g3⟩ | ⟨g, g1, g2, g3⟩ | ⟨g, g1, g2, g3⟩
            · exact absurd g h0
            · rw [g] at hr hn hlt hlen
              have : u = [] := List.eq_nil_of_length_eq_zero (by omega)
              subst this
              simp only [acc, List.foldl_nil, g2] at hr
              rw [form1 (by omega)]
              simp only [List.map_cons, List.map_nil]
              rw [u8_eq (b := b) (by omega)]
            · rw [g] at hr hn hlt hlen
              obtain ⟨c, rfl⟩ := List.length_eq_one_iff.1 (show u.length = 1 by omega)
              simp only [List.all_cons, List.all_nil, Bool.and_true, cont_iff] at hc
              simp only [acc, List.foldl_cons, List.foldl_nil, g3] at hr
              have hw2 : width r = 2 := by omega
              rcases width_cases r with k | ⟨k, k0, k1⟩ | ⟨k, k0, k1⟩ | ⟨k, k0, k1⟩ | ⟨k, k0, k1⟩ <;> try omega
              rw [form2 k0 k1]
              simp only [List.map_cons, List.map_nil]
              rw [u8_eq (b := b) (by omega), u8_eq (b := c) (by omega)]
            · rw [g] at hr hn hlt hlen
              obtain ⟨c, d, rfl⟩ := len_two (show u.length = 2 by omega)
              simp only [List.all_cons, List.all_nil, Bool.and_true, Bool.and_eq_true, cont_iff] at hc
              simp only [acc, List.foldl_cons, List.foldl_nil, g3] at hr
              rcases width_cases r with k | ⟨k, k0, k1⟩ | ⟨k, k0, k1⟩ | ⟨k, k0, k1⟩ | ⟨k, k0, k1⟩ <;> try omega
              rw [form3 k0 k1]
              simp only [List.map_cons, List.map_nil]
              rw [u8_eq (b := b) (by omega), u8_eq (b := c) (by omega), u8_eq (b := d) (by omega)]
            · rw [g] at hr hn hlt hlen
              obtain ⟨c, d, e, rfl⟩ := len_three (show u.length = 3 by omega)
              simp only [List.all_cons, List.all_nil, Bool.and_true, Bool.and_eq_true, cont_iff] at hc
              simp only [acc, List.foldl_cons, List.foldl_nil, g3] at hr
              rcases width_cases r with k | ⟨k, k0, k1⟩ | ⟨k, k0, k1⟩ | ⟨k, k0, k1⟩ | ⟨k, k0, k1⟩ <;> try omega
              rw [form4 k0]
              simp only [List.map_cons, List.map_nil]
              rw [u8_eq (b := b) (by omega), u8_eq (b := c) (by omega), u8_eq (b := d) (by omega), u8_eq (b := e) (by omega)]

/-- what was decoded is encoded to the same bytes -/
theorem dec_back : ∀ (m : Nat) (l : List UInt8) (a : Nat) (rs : List Int), l.length ≤ m → dec l a = (rs, 0, 0) → (∀ r ∈ rs, 0 < width r) ∧ (rs.flatMap form).map u8 = l := by
  intro m
  induction m with
  | zero =>
    intro l a rs hl h
    have : l = [] := List.eq_nil_of_length_eq_zero (by omega)
    subst this
    rw [dec_nil] at h
    cases h
    exact ⟨by simp, rfl⟩
  | succ m ih =>
    intro l a rs hl h
    by_cases hn : l = []
    · subst hn
      rw [dec_nil] at h
      cases h
      exact ⟨by simp, rfl⟩
    · by_cases hc : (first l).2.2 = 0
      · obtain ⟨r, n, hf⟩ : ∃ r n, first l = (r, n, 0) := ⟨_, _, Prod.ext rfl (Prod.ext rfl hc)⟩
        have hw := first_width hf
        have hfo := first_form hf
        rw [dec_step a hf] at h
        generalize hx : dec (l.drop n.toNat) (a + n.toNat) = x at h
        unfold glue at h
        split at h
        · rename_i h0
          simp only [Prod.mk.injEq, and_true] at h
          have hz := dec_zero (l := l.drop n.toNat) (a + n.toNat) (by rw [hx]; exact h0)
          rw [hx] at hz
          obtain ⟨i1, i2⟩ := ih (l.drop n.toNat) (a + n.toNat) x.1 (by rw [List.length_drop]; omega) (by rw [hx]; exact Prod.ext rfl (Prod.ext hz h0))
          subst h
          refine ⟨?_, ?_⟩
          · intro q hq
            rcases List.mem_append.1 hq with g | g
            · rw [List.mem_singleton.1 g]; omega
            · exact i1 q g
          · rw [List.flatMap_append, List.map_append, i2]
            simp only [List.flatMap_cons, List.flatMap_nil, List.append_nil]
            rw [hfo, List.take_append_drop]
        · rename_i h0
          simp only [Prod.mk.injEq] at h
          exact absurd h.2.2 h0
      · rw [dec_bad a hn hc] at h
        simp only [Prod.mk.injEq] at h
        exact absurd h.2.2 hc
end Go.Proofs.YteflghhpdikidaaDoor.Utf

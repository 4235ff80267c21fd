/-
  What is proved here: plain facts on numbers, bytes and lists that the walks of package utf lean on. No program is in it. · plain facts on what a text is decoded to. No program is in it. · plain facts: what was decoded is encoded to the same bytes; what was encoded is decoded to the same runes. No program is in it. · plain facts: what was encoded is decoded to the same runes. No program is in it. · plain facts: how the reference finds the rune at a place, or what is wrong there, gives what the program reckons. No program is in it.
-/
import Derived.WalkKit
namespace Go.Proofs.YtjjoedkigjekcaaGreatDoor.Utf

/-- how many bytes a rune's form has -/
def width (r : Int) : Int := if r < 0 ∨ 1114111 < r then 0 else if r < 128 then 1 else if r < 2048 then 2 else if 55296 ≤ r ∧ r ≤ 57343 then 0 else if r < 65536 then 3 else 4
/-- what kind of form a first byte begins -/
def formWidth (b : Int) : Int := if 248 ≤ b then 0 else if 240 ≤ b then 4 else if 224 ≤ b then 3 else if 192 ≤ b then 2 else if b < 128 then 1 else 0
/-- what a first byte carries -/
def leadBits (b n : Int) : Int := if n = 2 then (b - 192) % 256 else if n = 3 then (b - 224) % 256 else if n = 4 then (b - 240) % 256 else b
/-- 64 to a small power -/
def pw (m : Int) : Int := if m = 0 then 1 else if m = 1 then 64 else if m = 2 then 4096 else 262144
/-- does some right rune of n bytes begin so? -/
def ltr (r n m : Int) : Bool := width (r * pw m) == n || width (r * pw m + (pw m - 1)) == n
/-- a right rune's form -/
def form (r : Int) : List Int := if r < 128 then [r] else if r < 2048 then [192 + r / 64, 128 + r % 64] else if r < 65536 then [224 + r / 4096, 128 + r / 64 % 64, 128 + r % 64] else [240 + r / 262144, 128 + r / 4096 % 64, 128 + r / 64 % 64, 128 + r % 64]
theorem width_le (r : Int) : 0 ≤ width r ∧ width r ≤ 4 := by unfold width; (repeat' split) <;> omega
theorem formWidth_le (r : Int) : 0 ≤ formWidth r ∧ formWidth r ≤ 4 := by unfold formWidth; (repeat' split) <;> omega

/-- is a byte one that stands behind the first of a form? -/
def cont (c : UInt8) : Bool := decide (128 ≤ c.toNat) && decide (c.toNat < 192)
/-- the bits of some such bytes, behind others -/
def acc (r : Int) (l : List UInt8) : Int := l.foldl (fun r c => r * 64 + ((c.toNat % 64 : Nat) : Int)) r
theorem acc_snoc (r : Int) (l : List UInt8) (c : UInt8) : acc r (l ++ [c]) = acc r l * 64 + ((c.toNat % 64 : Nat) : Int) := by simp [acc]
/-- the rune that a text begins with, its width, and 0; or 0, 0, and 1 (a byte that can't be) or 2 (it ends too early): as the program reckons -/
def first : List UInt8 → Int × Int × Nat
  | [] => (0, 0, 1)
  | b :: t =>
    if formWidth b.toNat = 0 then (0, 0, 1)
    else if (t.take ((formWidth b.toNat).toNat - 1)).all cont = false then (0, 0, 1)
    else if ltr (acc (leadBits b.toNat (formWidth b.toNat)) (t.take ((formWidth b.toNat).toNat - 1))) (formWidth b.toNat) (formWidth b.toNat - 1 - (t.take ((formWidth b.toNat).toNat - 1)).length) = false then (0, 0, 1)
    else if ((t.take ((formWidth b.toNat).toNat - 1)).length : Int) + 1 < formWidth b.toNat then (0, 0, 2)
    else (acc (leadBits b.toNat (formWidth b.toNat)) (t.take ((formWidth b.toNat).toNat - 1)), formWidth b.toNat, 0)

theorem cont_bits : ∀ n : Nat, n < 256 → ((((n &&& 192 : Nat) : Int) != 128) = !(decide (128 ≤ n) && decide (n < 192))) := by decide +kernel
theorem cont_test (c : UInt8) : (bits BinOp.and IntKind.u8 (c.toNat : Int) 192 != 128) = !cont c := by
  have h := c.toNat_lt
  rw [show (192 : Int) = ((192 : Nat) : Int) from rfl, u8_and_nat c.toNat 192 h (by decide)]
  exact cont_bits _ h
theorem acc_lt (l : List UInt8) : ∀ r : Int, 0 ≤ r → 0 ≤ acc r l ∧ acc r l < (r + 1) * 64 ^ l.length := by
  induction l with
  | nil => intro r h; simp [acc]; omega
  | cons c l ih =>
    intro r h
    have hc : ((c.toNat % 64 : Nat) : Int) < 64 := by omega
    have := ih (r * 64 + ((c.toNat % 64 : Nat) : Int)) (by omega)
    refine ⟨this.1, Int.lt_of_lt_of_le this.2 ?_⟩
    rw [List.length_cons, Int.pow_succ, Int.mul_comm (64 ^ l.length) 64, ← Int.mul_assoc]
    exact Int.mul_le_mul_of_nonneg_right (by omega) (Int.pow_nonneg (by omega))
theorem leadBits_lt (b : UInt8) : 0 ≤ leadBits b.toNat (formWidth b.toNat) ∧ (formWidth b.toNat = 1 → leadBits b.toNat (formWidth b.toNat) < 128) ∧ (formWidth b.toNat = 2 → leadBits b.toNat (formWidth b.toNat) < 32) ∧ (formWidth b.toNat = 3 → leadBits b.toNat (formWidth b.toNat) < 16) ∧ (formWidth b.toNat = 4 → leadBits b.toNat (formWidth b.toNat) < 8) := by
  have h := b.toNat_lt
  unfold leadBits formWidth
  refine ⟨?_, ?_, ?_, ?_, ?_⟩ <;> (repeat' split) <;> omega
theorem acc_pw (b : UInt8) (u : List UInt8) (h0 : formWidth b.toNat ≠ 0) (hu : (u.length : Int) + 1 ≤ formWidth b.toNat) :
    0 ≤ acc (leadBits b.toNat (formWidth b.toNat)) u ∧ acc (leadBits b.toNat (formWidth b.toNat)) u * pw (formWidth b.toNat - 1 - u.length) < 2097152 := by
  obtain ⟨g0, g1, g2, g3, g4⟩ := leadBits_lt b
  have hn := formWidth_le b.toNat
  generalize leadBits b.toNat (formWidth b.toNat) = r at *
  generalize formWidth b.toNat = n at *
  obtain ⟨a0, a1⟩ := acc_lt u r g0
  refine ⟨a0, ?_⟩
  generalize acc r u = x at *
  generalize hl : u.length = j at *
  have hj : j = 0 ∨ j = 1 ∨ j = 2 ∨ j = 3 := by omega
  have hm : n = 1 ∨ n = 2 ∨ n = 3 ∨ n = 4 := by omega
  rcases hm with rfl | rfl | rfl | rfl <;> rcases hj with rfl | rfl | rfl | rfl <;> simp [pw] at * <;> omega
end Go.Proofs.YtjjoedkigjekcaaGreatDoor.Utf
namespace Go.Proofs.YtjjoedkigjekcaaGreatDoor.Utf

theorem first_width {l : List UInt8} {r n : Int} (h : first l = (r, n, 0)) : 1 ≤ n ∧ n ≤ 4 ∧ n ≤ l.length ∧ n = width r ∧ 0 ≤ r := by
  cases l with
  | nil => simp [first] at h
  | cons b t =>
    rw [first] at h
    have hw := formWidth_le b.toNat
    have hlen : (t.take ((formWidth b.toNat).toNat - 1)).length ≤ t.length := by rw [List.length_take]; omega
    have hlen2 : (t.take ((formWidth b.toNat).toNat - 1)).length ≤ (formWidth b.toNat).toNat - 1 := by rw [List.length_take]; omega
    split at h
    · simp at h
    · rename_i h0
      split at h
      · simp at h
      · split at h
        · simp at h
        · rename_i hl
          split at h
          · simp at h
          · rename_i hlt
            obtain ⟨a0, -⟩ := acc_pw b (t.take ((formWidth b.toNat).toNat - 1)) h0 (by omega)
            have e : formWidth b.toNat - 1 - ((t.take ((formWidth b.toNat).toNat - 1)).length : Int) = 0 := by omega
            rw [e] at hl
            simp only [Prod.mk.injEq] at h
            obtain ⟨rfl, rfl, -⟩ := h
            refine ⟨by omega, by omega, by simp only [List.length_cons]; omega, ?_, a0⟩
            simp [ltr, pw] at hl
            exact hl.symm

/-- the runes of a text whose first byte stands at the place a, in at most so many steps; or the place and the number of what is wrong -/
def decF : Nat → List UInt8 → Nat → List Int × Nat × Nat
  | 0, l, a => if l = [] then ([], 0, 0) else ([], a, 1)
  | f + 1, l, a =>
    if l = [] then ([], 0, 0)
    else if (first l).2.2 = 0 then
      if (decF f (l.drop (first l).2.1.toNat) (a + (first l).2.1.toNat)).2.2 = 0 then ((first l).1 :: (decF f (l.drop (first l).2.1.toNat) (a + (first l).2.1.toNat)).1, 0, 0)
      else ([], (decF f (l.drop (first l).2.1.toNat) (a + (first l).2.1.toNat)).2.1, (decF f (l.drop (first l).2.1.toNat) (a + (first l).2.1.toNat)).2.2)
    else ([], a, (first l).2.2)
/-- the runes of a text whose first byte stands at the place a; or the place and the number of what is wrong -/
def dec (l : List UInt8) (a : Nat) : List Int × Nat × Nat := decF l.length l a

/-- runes put ahead -/
def glue (rs : List Int) (x : List Int × Nat × Nat) : List Int × Nat × Nat := if x.2.2 = 0 then (rs ++ x.1, 0, 0) else ([], x.2.1, x.2.2)
theorem glue_nil (rs : List Int) : glue rs ([], 0, 0) = (rs, 0, 0) := by simp [glue]
theorem glue_bad (rs : List Int) (a c : Nat) (h : c ≠ 0) : glue rs ([], a, c) = ([], a, c) := by simp [glue, h]
theorem glue_glue (rs qs : List Int) (x : List Int × Nat × Nat) : glue rs (glue qs x) = glue (rs ++ qs) x := by
  unfold glue
  by_cases h : x.2.2 = 0 <;> simp [h]
theorem decF_nil (f a : Nat) : decF f [] a = ([], 0, 0) := by cases f <;> simp [decF]
theorem dec_nil (a : Nat) : dec [] a = ([], 0, 0) := decF_nil _ a
theorem decF_bad {l : List UInt8} (f a : Nat) (hl : l ≠ []) (h : (first l).2.2 ≠ 0) : decF (f + 1) l a = ([], a, (first l).2.2) := by
  rw [decF, if_neg hl, if_neg h]
theorem decF_step {l : List UInt8} (f a : Nat) {r n : Int} (h : first l = (r, n, 0)) : decF (f + 1) l a = glue [r] (decF f (l.drop n.toNat) (a + n.toNat)) := by
  have hw := first_width h
  have hl : l ≠ [] := by rintro rfl; simp at hw; omega
  rw [decF, if_neg hl]
  simp only [h]
  rw [if_pos trivial]
  rfl
/-- one step more than are enough -/
theorem decF_succ : ∀ (f : Nat) (l : List UInt8) (a : Nat), l.length ≤ f → decF (f + 1) l a = decF f l a := by
  intro f
  induction f with
  | zero =>
    intro l a hl
    have : l = [] := List.eq_nil_of_length_eq_zero (by omega)
    subst this
    rw [decF_nil, decF_nil]
  | succ f ih =>
    intro l a hl
    by_cases hn : l = []
    · subst hn; rw [decF_nil, decF_nil]
    · by_cases hc : (first l).2.2 = 0
      · obtain ⟨r, n, hf⟩ : ∃ r n, first l = (r, n, 0) := ⟨_, _, Prod.ext rfl (Prod.ext rfl hc)⟩
        have hw := first_width hf
        rw [decF_step (f + 1) a hf, decF_step f a hf, ih _ _ (by rw [List.length_drop]; omega)]
      · rw [decF_bad (f + 1) a hn hc, decF_bad f a hn hc]
/-- steps enough are steps enough -/
theorem decF_more (k : Nat) (l : List UInt8) (a : Nat) : decF (l.length + k) l a = dec l a := by
  induction k with
  | zero => rfl
  | succ k ih => rw [← Nat.add_assoc, decF_succ _ _ _ (by omega), ih]
theorem dec_bad {l : List UInt8} (a : Nat) (hl : l ≠ []) (h : (first l).2.2 ≠ 0) : dec l a = ([], a, (first l).2.2) := by
  obtain ⟨m, hm⟩ : ∃ m, l.length = m + 1 := ⟨l.length - 1, by have := List.length_pos_iff.2 hl; omega⟩
  rw [dec, hm, decF_bad m a hl h]
theorem dec_step {l : List UInt8} (a : Nat) {r n : Int} (h : first l = (r, n, 0)) : dec l a = glue [r] (dec (l.drop n.toNat) (a + n.toNat)) := by
  have hw := first_width h
  obtain ⟨m, hm⟩ : ∃ m, l.length = m + 1 := ⟨l.length - 1, by omega⟩
  rw [dec, hm, decF_step m a h]
  have e : m = (l.drop n.toNat).length + (m - (l.drop n.toNat).length) := by rw [List.length_drop]; omega
  rw [e, decF_more]
theorem glue_ok (rs : List Int) (x : List Int × Nat × Nat) : ((glue rs x).2.2 = 0 → (glue rs x).2.1 = 0) ∧ ((glue rs x).2.2 ≠ 0 → (glue rs x).1 = []) := by
  unfold glue
  by_cases h : x.2.2 = 0 <;> simp [h]
theorem dec_both (l : List UInt8) (a : Nat) : ((dec l a).2.2 = 0 → (dec l a).2.1 = 0) ∧ ((dec l a).2.2 ≠ 0 → (dec l a).1 = []) := by
  by_cases hn : l = []
  · subst hn; rw [dec_nil]; simp
  · by_cases hc : (first l).2.2 = 0
    · obtain ⟨r, n, hf⟩ : ∃ r n, first l = (r, n, 0) := ⟨_, _, Prod.ext rfl (Prod.ext rfl hc)⟩
      rw [dec_step a hf]
      exact glue_ok _ _
    · rw [dec_bad a hn hc]
      exact ⟨fun h => absurd h hc, fun _ => rfl⟩
theorem dec_code {l : List UInt8} (a : Nat) (h : (dec l a).2.2 ≠ 0) : (dec l a).1 = [] := (dec_both l a).2 h
theorem dec_zero {l : List UInt8} (a : Nat) (h : (dec l a).2.2 = 0) : (dec l a).2.1 = 0 := (dec_both l a).1 h
theorem glue_start (l : List UInt8) : dec l 0 = glue [] (dec (l.drop 0) 0) := by
  rw [List.drop_zero, glue]
  split
  · rename_i h
    rw [List.nil_append]
    exact Prod.ext rfl (Prod.ext (dec_zero 0 h) h)
  · rename_i h
    exact Prod.ext (dec_code 0 h) rfl
end Go.Proofs.YtjjoedkigjekcaaGreatDoor.Utf
namespace Go.Proofs.YtjjoedkigjekcaaGreatDoor.Utf

/-- a number as a byte -/
def u8 (x : Int) : UInt8 := UInt8.ofNat x.toNat
theorem u8_eq {x : Int} {b : UInt8} (h : x = (b.toNat : Int)) : u8 x = b := by
  subst h; simp [u8]
theorem u8_toNat {x : Int} (h0 : 0 ≤ x) (h1 : x < 256) : ((u8 x).toNat : Int) = x := by
  have : x.toNat < 256 := by omega
  simp [u8, UInt8.toNat_ofNat']
  omega
theorem cont_iff (c : UInt8) : cont c = true ↔ 128 ≤ c.toNat ∧ c.toNat < 192 := by simp [cont]
theorem width_cases (r : Int) : (width r = 0) ∨ (width r = 1 ∧ 0 ≤ r ∧ r < 128) ∨ (width r = 2 ∧ 128 ≤ r ∧ r < 2048) ∨ (width r = 3 ∧ 2048 ≤ r ∧ r < 65536) ∨ (width r = 4 ∧ 65536 ≤ r ∧ r ≤ 1114111) := by
  unfold width; (repeat' split) <;> omega
theorem form1 {r : Int} (h1 : r < 128) : form r = [r] := if_pos h1
theorem form2 {r : Int} (h0 : 128 ≤ r) (h1 : r < 2048) : form r = [192 + r / 64, 128 + r % 64] := (if_neg (by omega)).trans (if_pos h1)
theorem form3 {r : Int} (h0 : 2048 ≤ r) (h1 : r < 65536) : form r = [224 + r / 4096, 128 + r / 64 % 64, 128 + r % 64] := (if_neg (by omega)).trans ((if_neg (by omega)).trans (if_pos h1))
theorem form4 {r : Int} (h0 : 65536 ≤ r) : form r = [240 + r / 262144, 128 + r / 4096 % 64, 128 + r / 64 % 64, 128 + r % 64] := (if_neg (by omega)).trans ((if_neg (by omega)).trans (if_neg (by omega)))
theorem form_len {r : Int} (h : 0 < width r) : ((form r).length : Int) = width r := by
  rcases width_cases r with g | ⟨g, h0, h1⟩ | ⟨g, h0, h1⟩ | ⟨g, h0, h1⟩ | ⟨g, h0, h1⟩
  · omega
  · rw [form1 h1, g]; rfl
  · rw [form2 h0 h1, g]; rfl
  · rw [form3 h0 h1, g]; rfl
  · rw [form4 h0, g]; rfl

theorem lead_cases (b : UInt8) : (formWidth b.toNat = 0) ∨ (formWidth b.toNat = 1 ∧ b.toNat < 128 ∧ leadBits b.toNat 1 = b.toNat) ∨ (formWidth b.toNat = 2 ∧ 192 ≤ b.toNat ∧ b.toNat < 224 ∧ leadBits b.toNat 2 = b.toNat - 192) ∨
    (formWidth b.toNat = 3 ∧ 224 ≤ b.toNat ∧ b.toNat < 240 ∧ leadBits b.toNat 3 = b.toNat - 224) ∨ (formWidth b.toNat = 4 ∧ 240 ≤ b.toNat ∧ b.toNat < 248 ∧ leadBits b.toNat 4 = b.toNat - 240) := by
  have hb := b.toNat_lt
  generalize b.toNat = x at *
  have fw : ∀ n : Int, (if 248 ≤ (x : Int) then (0 : Int) else if 240 ≤ (x : Int) then 4 else if 224 ≤ (x : Int) then 3 else if 192 ≤ (x : Int) then 2 else if (x : Int) < 128 then 1 else 0) = n → formWidth x = n := fun n h => h
  have hr : x < 128 ∨ (128 ≤ x ∧ x < 192) ∨ (192 ≤ x ∧ x < 224) ∨ (224 ≤ x ∧ x < 240) ∨ (240 ≤ x ∧ x < 248) ∨ 248 ≤ x := by omega
  rcases hr with h | h | h | h | h | h
  · exact .inr (.inl ⟨fw _ (by rw [if_neg (by omega), if_neg (by omega), if_neg (by omega), if_neg (by omega), if_pos (by omega)]), h, by simp [leadBits]⟩)
  · exact .inl (fw _ (by rw [if_neg (by omega), if_neg (by omega), if_neg (by omega), if_neg (by omega), if_neg (by omega)]))
  · exact .inr (.inr (.inl ⟨fw _ (by rw [if_neg (by omega), if_neg (by omega), if_neg (by omega), if_pos (by omega)]), h.1, h.2, by simp only [leadBits, if_true]; omega⟩))
  · exact .inr (.inr (.inr (.inl ⟨fw _ (by rw [if_neg (by omega), if_neg (by omega), if_pos (by omega)]), h.1, h.2, by simp [leadBits]; omega⟩)))
  · exact .inr (.inr (.inr (.inr ⟨fw _ (by rw [if_neg (by omega), if_pos (by omega)]), h.1, h.2, by simp [leadBits]; omega⟩)))
  · exact .inl (fw _ (by rw [if_pos (by omega)]))

theorem len_two {u : List UInt8} (h : u.length = 2) : ∃ c d, u = [c, d] := by
  match u, h with
  | [c, d], _ => exact ⟨c, d, rfl⟩
theorem len_three {u : List UInt8} (h : u.length = 3) : ∃ c d e, u = [c, d, e] := by
  match u, h with
  | [c, d, e], _ => exact ⟨c, d, e, rfl⟩
/-- what a text that begins with a right rune's form begins with -/
theorem first_form {l : List UInt8} {r n : Int} (h : first l = (r, n, 0)) : (form r).map u8 = l.take n.toNat := by
  have hw := first_width h
  cases l with
  | nil => simp [first] at h
  | cons b t =>
    rw [first] at h
    have hlen : (t.take ((formWidth b.toNat).toNat - 1)).length ≤ (formWidth b.toNat).toNat - 1 := by rw [List.length_take]; omega
    split at h
    · simp at h
    · rename_i h0
      split at h
      · simp at h
      · rename_i hc
        split at h
        · simp at h
        · split at h
          · simp at h
          · rename_i hlt
            simp only [Prod.mk.injEq] at h
            obtain ⟨hr, hn, -⟩ := h
            have hc : (t.take ((formWidth b.toNat).toNat - 1)).all cont = true := by simpa using hc
            have htk : (b :: t).take n.toNat = b :: t.take ((formWidth b.toNat).toNat - 1) := by
              rw [← hn, show (formWidth b.toNat).toNat = ((formWidth b.toNat).toNat - 1) + 1 by omega]; simp
            rw [htk]
            generalize hu : t.take ((formWidth b.toNat).toNat - 1) = u at *
            rcases lead_cases b with g | ⟨g, g1, g2⟩ | ⟨g, g1, g2, g3⟩ | ⟨g, g1, g2, g3⟩ | ⟨g, g1, g2, g3⟩
            · exact absurd g h0
            · rw [g] at hr hn hlt hlen
              have : u = [] := List.eq_nil_of_length_eq_zero (by omega)
              subst this
              simp only [acc, List.foldl_nil, g2] at hr
              rw [form1 (by omega)]
              simp only [List.map_cons, List.map_nil]
              rw [u8_eq (b := b) (by omega)]
            · rw [g] at hr hn hlt hlen
              obtain ⟨c, rfl⟩ := List.length_eq_one_iff.1 (show u.length = 1 by omega)
              simp only [List.all_cons, List.all_nil, Bool.and_true, cont_iff] at hc
              simp only [acc, List.foldl_cons, List.foldl_nil, g3] at hr
              have hw2 : width r = 2 := by omega
              rcases width_cases r with k | ⟨k, k0, k1⟩ | ⟨k, k0, k1⟩ | ⟨k, k0, k1⟩ | ⟨k, k0, k1⟩ <;> try omega
              rw [form2 k0 k1]
              simp only [List.map_cons, List.map_nil]
              rw [u8_eq (b := b) (by omega), u8_eq (b := c) (by omega)]
            · rw [g] at hr hn hlt hlen
              obtain ⟨c, d, rfl⟩ := len_two (show u.length = 2 by omega)
              simp only [List.all_cons, List.all_nil, Bool.and_true, Bool.and_eq_true, cont_iff] at hc
              simp only [acc, List.foldl_cons, List.foldl_nil, g3] at hr
              rcases width_cases r with k | ⟨k, k0, k1⟩ | ⟨k, k0, k1⟩ | ⟨k, k0, k1⟩ | ⟨k, k0, k1⟩ <;> try omega
              rw [form3 k0 k1]
              simp only [List.map_cons, List.map_nil]
              rw [u8_eq (b := b) (by omega), u8_eq (b := c) (by omega), u8_eq (b := d) (by omega)]
            · rw [g] at hr hn hlt hlen
              obtain ⟨c, d, e, rfl⟩ := len_three (show u.length = 3 by omega)
              simp only [List.all_cons, List.all_nil, Bool.and_true, Bool.and_eq_true, cont_iff] at hc
              simp only [acc, List.foldl_cons, List.foldl_nil, g3] at hr
              rcases width_cases r with k | ⟨k, k0, k1⟩ | ⟨k, k0, k1⟩ | ⟨k, k0, k1⟩ | ⟨k, k0, k1⟩ <;> try omega
              rw [form4 k0]
              simp only [List.map_cons, List.map_nil]
              rw [u8_eq (b := b) (by omega), u8_eq (b := c) (by omega), u8_eq (b := d) (by omega), u8_eq (b := e) (by omega)]

/-- what was decoded is encoded to the same bytes -/
theorem dec_back : ∀ (m : Nat) (l : List UInt8) (a : Nat) (rs : List Int), l.length ≤ m → dec l a = (rs, 0, 0) → (∀ r ∈ rs, 0 < width r) ∧ (rs.flatMap form).map u8 = l := by
  intro m
  induction m with
  | zero =>
    intro l a rs hl h
    have : l = [] := List.eq_nil_of_length_eq_zero (by omega)
    subst this
    rw [dec_nil] at h
    cases h
    exact ⟨by simp, rfl⟩
  | succ m ih =>
    intro l a rs hl h
    by_cases hn : l = []
    · subst hn
      rw [dec_nil] at h
      cases h
      exact ⟨by simp, rfl⟩
    · by_cases hc : (first l).2.2 = 0
      · obtain ⟨r, n, hf⟩ : ∃ r n, first l = (r, n, 0) := ⟨_, _, Prod.ext rfl (Prod.ext rfl hc)⟩
        have hw := first_width hf
        have hfo := first_form hf
        rw [dec_step a hf] at h
        generalize hx : dec (l.drop n.toNat) (a + n.toNat) = x at h
        unfold glue at h
        split at h
        · rename_i h0
          simp only [Prod.mk.injEq, and_true] at h
          have hz := dec_zero (l := l.drop n.toNat) (a + n.toNat) (by rw [hx]; exact h0)
          rw [hx] at hz
          obtain ⟨i1, i2⟩ := ih (l.drop n.toNat) (a + n.toNat) x.1 (by rw [List.length_drop]; omega) (by rw [hx]; exact Prod.ext rfl (Prod.ext hz h0))
          subst h
          refine ⟨?_, ?_⟩
          · intro q hq
            rcases List.mem_append.1 hq with g | g
            · rw [List.mem_singleton.1 g]; omega
            · exact i1 q g
          · rw [List.flatMap_append, List.map_append, i2]
            simp only [List.flatMap_cons, List.flatMap_nil, List.append_nil]
            rw [hfo, List.take_append_drop]
        · rename_i h0
          simp only [Prod.mk.injEq] at h
          exact absurd h.2.2 h0
      · rw [dec_bad a hn hc] at h
        simp only [Prod.mk.injEq] at h
        exact absurd h.2.2 hc
end Go.Proofs.YtjjoedkigjekcaaGreatDoor.Utf
namespace Go.Proofs.YtjjoedkigjekcaaGreatDoor.Utf

theorem fw1 {x : Int} (h : x < 128) : formWidth x = 1 := by
  unfold formWidth; rw [if_neg (by omega), if_neg (by omega), if_neg (by omega), if_neg (by omega), if_pos h]
theorem fw2 {x : Int} (h0 : 192 ≤ x) (h : x < 224) : formWidth x = 2 := by
  unfold formWidth; rw [if_neg (by omega), if_neg (by omega), if_neg (by omega), if_pos h0]
theorem fw3 {x : Int} (h0 : 224 ≤ x) (h : x < 240) : formWidth x = 3 := by
  unfold formWidth; rw [if_neg (by omega), if_neg (by omega), if_pos h0]
theorem fw4 {x : Int} (h0 : 240 ≤ x) (h : x < 248) : formWidth x = 4 := by
  unfold formWidth; rw [if_neg (by omega), if_pos h0]
theorem cont_u8 {x : Int} (h0 : 0 ≤ x) (h : x < 64) : cont (u8 (128 + x)) = true := by
  have := u8_toNat (x := 128 + x) (by omega) (by omega)
  rw [cont_iff]; omega
theorem low_u8 {x : Int} (h0 : 0 ≤ x) (h : x < 64) : (((u8 (128 + x)).toNat % 64 : Nat) : Int) = x := by
  have := u8_toNat (x := 128 + x) (by omega) (by omega)
  omega
theorem ltr_zero {r n : Int} (h : width r = n) : ltr r n 0 = true := by simp [ltr, pw, h]

theorem first_mk {b : UInt8} {t u : List UInt8} {n : Nat} {r : Int} (hn : formWidth b.toNat = (n : Int)) (hu : t.take (n - 1) = u) (hlen : u.length + 1 = n) (hc : u.all cont = true) (hr : acc (leadBits b.toNat n) u = r) (hw : width r = n) :
    first (b :: t) = (r, (n : Int), 0) := by
  rw [first]
  simp only [hn, Int.toNat_natCast, hu, hc, hr]
  rw [if_neg (by omega), if_neg (by decide), show (n : Int) - 1 - (u.length : Int) = 0 by omega, ltr_zero hw, if_neg (by decide), if_neg (by omega)]

/-- a text that begins with a right rune's form begins with that rune -/
theorem first_of_form {r : Int} (h : 0 < width r) (l : List UInt8) : first ((form r).map u8 ++ l) = (r, width r, 0) := by
  rcases width_cases r with g | ⟨g, h0, h1⟩ | ⟨g, h0, h1⟩ | ⟨g, h0, h1⟩ | ⟨g, h0, h1⟩
  · omega
  · rw [form1 h1, g]
    have e := u8_toNat (x := r) (by omega) (by omega)
    exact first_mk (n := 1) (u := []) (fw1 (by omega)) rfl rfl rfl (by simp [acc, leadBits, e]) g
  · rw [form2 h0 h1, g]
    have e := u8_toNat (x := 192 + r / 64) (by omega) (by omega)
    have c := cont_u8 (x := r % 64) (by omega) (by omega)
    have d := low_u8 (x := r % 64) (by omega) (by omega)
    exact first_mk (n := 2) (u := [u8 (128 + r % 64)]) (fw2 (by omega) (by omega)) rfl rfl (by simp [c]) (by simp only [acc, List.foldl_cons, List.foldl_nil, d, e, leadBits]; simp; omega) g
  · rw [form3 h0 h1, g]
    have e := u8_toNat (x := 224 + r / 4096) (by omega) (by omega)
    have c := cont_u8 (x := r % 64) (by omega) (by omega)
    have d := low_u8 (x := r % 64) (by omega) (by omega)
    have c' := cont_u8 (x := r / 64 % 64) (by omega) (by omega)
    have d' := low_u8 (x := r / 64 % 64) (by omega) (by omega)
    exact first_mk (n := 3) (u := [u8 (128 + r / 64 % 64), u8 (128 + r % 64)]) (fw3 (by omega) (by omega)) rfl rfl (by simp [c, c']) (by simp only [acc, List.foldl_cons, List.foldl_nil, d, d', e, leadBits]; simp; omega) g
  · rw [form4 h0, g]
    have e := u8_toNat (x := 240 + r / 262144) (by omega) (by omega)
    have c := cont_u8 (x := r % 64) (by omega) (by omega)
    have d := low_u8 (x := r % 64) (by omega) (by omega)
    have c' := cont_u8 (x := r / 64 % 64) (by omega) (by omega)
    have d' := low_u8 (x := r / 64 % 64) (by omega) (by omega)
    have c'' := cont_u8 (x := r / 4096 % 64) (by omega) (by omega)
    have d'' := low_u8 (x := r / 4096 % 64) (by omega) (by omega)
    exact first_mk (n := 4) (u := [u8 (128 + r / 4096 % 64), u8 (128 + r / 64 % 64), u8 (128 + r % 64)]) (fw4 (by omega) (by omega)) rfl rfl (by simp [c, c', c'']) (by simp only [acc, List.foldl_cons, List.foldl_nil, d, d', d'', e, leadBits]; simp; omega) g

theorem dec_there (rs : List Int) : ∀ a, (∀ r ∈ rs, 0 < width r) → dec ((rs.flatMap form).map u8) a = (rs, 0, 0) := by
  induction rs with
  | nil => intro a _; exact dec_nil a
  | cons r rs ih =>
    intro a h
    have hr := h r (List.mem_cons_self ..)
    have hl := form_len hr
    rw [List.flatMap_cons, List.map_append, dec_step a (first_of_form hr _)]
    have e : ((form r).map u8 ++ (rs.flatMap form).map u8).drop (width r).toNat = (rs.flatMap form).map u8 :=
      List.drop_left' (by rw [List.length_map]; omega)
    rw [e, ih _ fun q hq => h q (List.mem_cons_of_mem _ hq)]
    rfl
end Go.Proofs.YtjjoedkigjekcaaGreatDoor.Utf
namespace Go.Proofs.YtjjoedkigjekcaaGreatDoor.Utf

/-- the rune that bytes would be, by their bits; -1: none -/
def val : List UInt8 → Int
  | [] => -1
  | b :: t => if formWidth b.toNat = (t.length : Int) + 1 then (if t.all cont then acc (leadBits b.toNat (formWidth b.toNat)) t else -1) else -1
/-- is one of the runes from a to b right, with a form of n bytes? -/
def lo (n : Int) : Int := if n = 3 then 2048 else if n = 4 then 65536 else 128
def hi (n : Int) : Int := if n = 3 then 65535 else if n = 4 then 1114111 else 2047
def clip (a n : Int) : Int := if 55296 ≤ (if a < lo n then lo n else a) ∧ (if a < lo n then lo n else a) ≤ 57343 then 57344 else (if a < lo n then lo n else a)
def someB (a b n : Int) : Bool := decide (clip a n ≤ (if hi n < b then hi n else b))

theorem code_cases (l : List UInt8) : (first l).2.2 = 0 ∨ first l = (0, 0, 1) ∨ first l = (0, 0, 2) := by
  cases l with
  | nil => exact .inr (.inl rfl)
  | cons b t =>
    rw [first]
    (repeat' split) <;> simp

theorem next_found {l : List UInt8} {n : Nat} {r : Int} (hr : 0 < width r) (hf : (form r).map u8 = l.take n) (hn : n ≤ l.length) : first l = (r, (n : Int), 0) := by
  have h := first_of_form hr (l.drop n)
  rw [hf, List.take_append_drop] at h
  have hl := form_len hr
  have hl2 : (form r).length = n := by
    have := congrArg List.length hf
    rw [List.length_map, List.length_take] at this
    omega
  rw [h, ← hl, hl2]

theorem next_val {l : List UInt8} {r n : Int} (h : first l = (r, n, 0)) : val (l.take n.toNat) = r ∧ 0 ≤ r ∧ 0 < width r ∧ (form r).map u8 = l.take n.toNat := by
  have hw := first_width h
  refine ⟨?_, hw.2.2.2.2, by omega, first_form h⟩
  cases l with
  | nil => simp [first] at h
  | cons b t =>
    rw [first] at h
    split at h
    · simp at h
    · rename_i h0
      split at h
      · simp at h
      · rename_i hc
        split at h
        · simp at h
        · split at h
          · simp at h
          · rename_i hlt
            simp only [Prod.mk.injEq] at h
            obtain ⟨hr, hn, -⟩ := h
            have hfw := formWidth_le b.toNat
            have hlen : (t.take ((formWidth b.toNat).toNat - 1)).length ≤ (formWidth b.toNat).toNat - 1 := by rw [List.length_take]; omega
            have htk : (b :: t).take n.toNat = b :: t.take ((formWidth b.toNat).toNat - 1) := by
              rw [← hn, show (formWidth b.toNat).toNat = ((formWidth b.toNat).toNat - 1) + 1 by omega]; simp
            rw [htk, val, if_pos (by omega), if_pos (by simpa using hc), hr]

theorem all_rep (m : Nat) (c : UInt8) (h : cont c = true) : (List.replicate m c).all cont = true := by
  induction m with
  | zero => rfl
  | succ m ih => rw [List.replicate_succ, List.all_cons, h, ih]; rfl
theorem acc_app (r : Int) (a b : List UInt8) : acc r (a ++ b) = acc (acc r a) b := by simp [acc]
theorem pad_low (r : Int) (m : Nat) (hm : m = 1 ∨ m = 2 ∨ m = 3) : acc r (List.replicate m 128) = r * pw m := by
  rcases hm with rfl | rfl | rfl <;> simp [acc, pw, List.replicate] <;> omega
theorem pad_high (r : Int) (m : Nat) (hm : m = 1 ∨ m = 2 ∨ m = 3) : acc r (List.replicate m 191) = r * pw m + (pw m - 1) := by
  rcases hm with rfl | rfl | rfl <;> simp [acc, pw, List.replicate] <;> omega
theorem val_pad (b : UInt8) (t : List UInt8) (c : UInt8) (hc : cont c = true) (m : Nat) :
    val ((b :: t) ++ List.replicate m c) = if formWidth b.toNat = (t.length : Int) + 1 + m ∧ t.all cont = true then acc (acc (leadBits b.toNat (formWidth b.toNat)) t) (List.replicate m c) else -1 := by
  rw [List.cons_append, val, List.length_append, List.length_replicate, List.all_append, all_rep m c hc, Bool.and_true, acc_app]
  by_cases h1 : formWidth b.toNat = (t.length : Int) + 1 + m
  · by_cases h2 : t.all cont = true
    · rw [if_pos (by omega), if_pos h2, if_pos ⟨h1, h2⟩]
    · rw [if_pos (by omega), if_neg h2, if_neg (fun h => h2 h.2)]
  · rw [if_neg (by omega), if_neg (fun h => h1 h.1)]

theorem width2 (x : Int) : width x = 2 ↔ 128 ≤ x ∧ x < 2048 := by unfold width; (repeat' split) <;> omega
theorem width3 (x : Int) : width x = 3 ↔ (2048 ≤ x ∧ x < 55296) ∨ (57344 ≤ x ∧ x < 65536) := by unfold width; (repeat' split) <;> omega
theorem width4 (x : Int) : width x = 4 ↔ 65536 ≤ x ∧ x ≤ 1114111 := by unfold width; (repeat' split) <;> omega
theorem some2 (a b : Int) (h : a ≤ b) : someB a b 2 = true ↔ a ≤ 2047 ∧ 128 ≤ b := by
  simp only [someB, clip, show lo 2 = 128 from rfl, show hi 2 = 2047 from rfl, decide_eq_true_eq]
  (repeat' split) <;> omega
theorem some3 (a b : Int) (h : a ≤ b) : someB a b 3 = true ↔ (a < 55296 ∧ 2048 ≤ b) ∨ (a ≤ 65535 ∧ 57344 ≤ b) := by
  simp only [someB, clip, show lo 3 = 2048 from rfl, show hi 3 = 65535 from rfl, decide_eq_true_eq]
  (repeat' split) <;> omega
theorem some4 (a b : Int) (h : a ≤ b) : someB a b 4 = true ↔ a ≤ 1114111 ∧ 65536 ≤ b := by
  simp only [someB, clip, show lo 4 = 65536 from rfl, show hi 4 = 1114111 from rfl, decide_eq_true_eq]
  (repeat' split) <;> omega

theorem some_ltr (r n m : Int) (h0 : 0 ≤ r) (hn : n = 2 ∨ n = 3 ∨ n = 4) (hm : m = 1 ∨ m = 2 ∨ m = 3) (hmn : m < n) (hb : r * pw m < 2097152) :
    someB (r * pw m) (r * pw m + (pw m - 1)) n = ltr r n m := by
  unfold ltr
  rw [Bool.eq_iff_iff]
  simp only [Bool.or_eq_true, beq_iff_eq]
  rcases hn with rfl | rfl | rfl <;> rcases hm with rfl | rfl | rfl <;> simp only [show pw 1 = 64 from rfl, show pw 2 = 4096 from rfl, show pw 3 = 262144 from rfl] at * <;> try omega
  · rw [some2 _ _ (by omega), width2, width2]; omega
  · rw [some3 _ _ (by omega), width3, width3]; omega
  · rw [some3 _ _ (by omega), width3, width3]; omega
  · rw [some4 _ _ (by omega), width4, width4]; omega
  · rw [some4 _ _ (by omega), width4, width4]; omega
  · rw [some4 _ _ (by omega), width4, width4]; omega

/-- some bytes behind a text make a right rune's form of n bytes of it: the two ends of what they may be -/
def endsAt (l : List UInt8) (n : Nat) : Bool :=
  decide (0 ≤ val (l ++ List.replicate (n - l.length) 128)) && decide (0 ≤ val (l ++ List.replicate (n - l.length) 191)) && someB (val (l ++ List.replicate (n - l.length) 128)) (val (l ++ List.replicate (n - l.length) 191)) n
theorem endsAt_eq {b : UInt8} {t : List UInt8} {n : Nat} (h1 : t.length + 1 < n) (h2 : n ≤ 4) :
    endsAt (b :: t) n = (decide (formWidth b.toNat = n) && t.all cont && ltr (acc (leadBits b.toNat (formWidth b.toNat)) t) n ((n : Int) - 1 - t.length)) := by
  show (decide (0 ≤ val ((b :: t) ++ List.replicate (n - (t.length + 1)) 128)) && decide (0 ≤ val ((b :: t) ++ List.replicate (n - (t.length + 1)) 191)) && someB (val ((b :: t) ++ List.replicate (n - (t.length + 1)) 128)) (val ((b :: t) ++ List.replicate (n - (t.length + 1)) 191)) n) = _
  rw [val_pad b t 128 (by decide), val_pad b t 191 (by decide)]
  by_cases hf : formWidth b.toNat = (n : Int)
  · by_cases hc : t.all cont = true
    · have hm : n - (t.length + 1) = 1 ∨ n - (t.length + 1) = 2 ∨ n - (t.length + 1) = 3 := by omega
      have hcond : formWidth b.toNat = (t.length : Int) + 1 + ((n - (t.length + 1) : Nat) : Int) ∧ t.all cont = true := ⟨by omega, hc⟩
      rw [if_pos hcond, if_pos hcond, pad_low _ _ hm, pad_high _ _ hm]
      have hp := acc_pw b t (by omega) (by omega)
      have em : (n : Int) - 1 - (t.length : Int) = ((n - (t.length + 1) : Nat) : Int) := by omega
      rw [show formWidth b.toNat - 1 - (t.length : Int) = ((n - (t.length + 1) : Nat) : Int) by omega] at hp
      rw [em, hc]
      generalize acc (leadBits b.toNat (formWidth b.toNat)) t = r at *
      generalize ((n - (t.length + 1) : Nat) : Int) = m at *
      have hmm : m = 1 ∨ m = 2 ∨ m = 3 := by omega
      have hpw : 1 ≤ pw m := by rcases hmm with rfl | rfl | rfl <;> decide
      have h3 : 0 ≤ r * pw m := Int.mul_nonneg hp.1 (by omega)
      rw [some_ltr r n m hp.1 (by omega) hmm (by omega) hp.2]
      simp [h3, hf]
      omega
    · have hcond : ¬ (formWidth b.toNat = (t.length : Int) + 1 + ((n - (t.length + 1) : Nat) : Int) ∧ t.all cont = true) := fun h => hc h.2
      have hc' : t.all cont = false := by simpa using hc
      rw [if_neg hcond, hc']
      simp
  · have hcond : ¬ (formWidth b.toNat = (t.length : Int) + 1 + ((n - (t.length + 1) : Nat) : Int) ∧ t.all cont = true) := fun h => hf (by omega)
    rw [if_neg hcond]
    simp [hf]

/-- where no form stands: which of the two it is -/
theorem code_ends {l : List UInt8} (hl : l ≠ []) (h : (first l).2.2 ≠ 0) : first l = (0, 0, 2) ↔ ∃ n, l.length < n ∧ n ≤ 4 ∧ endsAt l n = true := by
  cases l with
  | nil => exact absurd rfl hl
  | cons b t =>
    have hfw := formWidth_le b.toNat
    rw [List.length_cons]
    constructor
    · intro h2
      rw [first] at h2
      split at h2
      · simp at h2
      · rename_i h0
        split at h2
        · simp at h2
        · rename_i hc
          split at h2
          · simp at h2
          · rename_i hl
            split at h2
            · rename_i hlt
              have hle : t.length ≤ (formWidth b.toNat).toNat - 1 := by
                rw [List.length_take] at hlt
                omega
              rw [List.take_of_length_le hle] at hc hl hlt
              refine ⟨(formWidth b.toNat).toNat, by omega, by omega, ?_⟩
              rw [endsAt_eq (by omega) (by omega)]
              have e : ((formWidth b.toNat).toNat : Int) = formWidth b.toNat := by omega
              simp only [e]
              simp only [Bool.not_eq_false] at hc hl
              simp [hc, hl]
            · rename_i hlt
              exfalso
              rw [first, if_neg h0, if_neg hc, if_neg hl, if_neg hlt] at h
              exact h rfl
    · rintro ⟨n, h1, h2, he⟩
      rw [endsAt_eq h1 h2] at he
      simp only [Bool.and_eq_true, decide_eq_true_eq] at he
      obtain ⟨⟨e1, e2⟩, e3⟩ := he
      have hle : t.length ≤ (formWidth b.toNat).toNat - 1 := by omega
      rw [first, List.take_of_length_le hle, if_neg (by omega), e2, if_neg (by decide)]
      rw [e1] at e3 ⊢
      rw [e3, if_neg (by decide), if_pos (by omega)]
end Go.Proofs.YtjjoedkigjekcaaGreatDoor.Utf

/-
  What is proved here: plain facts: what was encoded is decoded to the same runes. No program is in it.
-/
import Derived.Test.YteflghhpdikidaaDoorForms
namespace Go.Proofs.YteflghhpdikidaaDoor.Utf

theorem fw1 {x : Int} (h : x < 128) : formWidth x = 1 := by
  unfold formWidth; rw [if_neg (by omega), if_neg (by omega), if_neg (by omega), if_neg (by omega), if_pos h]
theorem fw2 {x : Int} (h0 : 192 ≤ x) (h : x < 224) : formWidth x = 2 := by
  unfold formWidth; rw [if_neg (by omega), if_neg (by omega), if_neg (by omega), if_pos h0]
theorem fw3 {x : Int} (h0 : 224 ≤ x) (h : x < 240) : formWidth x = 3 := by
  unfold formWidth; rw [if_neg (by omega), if_neg (by omega), if_pos h0]
theorem fw4 {x : Int} (h0 : 240 ≤ x) (h : x < 248) : formWidth x = 4 := by
  unfold formWidth; rw [if_neg (by omega), if_pos h0]
theorem cont_u8 {x : Int} (h0 : 0 ≤ x) (h : x < 64) : cont (u8 (128 + x)) = true := by
  have := u8_toNat (x := 128 + x) (by omega) (by omega)
  rw [cont_iff]; omega
theorem low_u8 {x : Int} (h0 : 0 ≤ x) (h : x < 64) : (((u8 (128 + x)).toNat % 64 : Nat) : Int) = x := by
  have := u8_toNat (x := 128 + x) (by omega) (by omega)
  omega
theorem ltr_zero {r n : Int} (h : width r = n) : ltr r n 0 = true := by simp [ltr, pw, h]

theorem first_mk {b : UInt8} {t u : List UInt8} {n : Nat} {r : Int} (hn : formWidth b.toNat = (n : Int)) (hu : t.take (n - 1) = u) (hlen : u.length + 1 = n) (hc : u.all cont = true) (hr : acc (leadBits b.toNat n) u = r) (hw : width r = n) :
    first (b :: t) = (r, (n : Int), 0) := by
  rw [first]
  simp only [hn, Int.toNat_natCast, hu, hc, hr]
  rw [if_neg (by omega), if_neg (by decide), show (n : Int) - 1 - (u.length : Int) = 0 by omega, ltr_zero hw, if_neg (by decide), if_neg (by omega)]

/-- a text that begins with a right rune's form begins with that rune -/
theorem first_of_form {r : Int} (h : 0 < width r) (l : List UInt8) : first ((form r).map u8 ++ l) = (r, width r, 0) := by
  rcases width_cases r with g | ⟨g, h0, h1⟩ | ⟨g, h0, h1⟩ | ⟨g, h0, h1⟩ | ⟨g, h0, h1⟩
  · omega
  · rw [form1 h1, g]
    have e := u8_toNat (x := r) (by omega) (by omega)
    exact first_mk (n := 1) (u := []) (fw1 (by omega)) rfl rfl rfl (by simp [acc, leadBits, e]) g
  · rw [form2 h0 h1, g]
    have e := u8_toNat (x := 192 + r / 64) (by omega) (by omega)
    have c := cont_u8 (x := r % 64) (by omega) (by omega)
    have d := low_u8 (x := r % 64) (by omega) (by omega)
    exact first_mk (n := 2) (u := [u8 (128 + r % 64)]) (fw2 (by omega) (by omega)) rfl rfl (by simp [c]) (by simp only [acc, List.foldl_cons, List.foldl_nil, d, e, leadBits]; simp; omega) g
  · rw [form3 h0 h1, g]
    have e := u8_toNat (x := 224 + r / 4096) (by omega) (by omega)
    have c := cont_u8 (x := r % 64) (by omega) (by omega)
    have d := low_u8 (x := r % 64) (by omega) (by omega)
    have c' := cont_u8 (x := r / 64 % 64) (by omega) (by omega)
    have d' := low_u8 (x := r / 64 % 64) (by omega) (by omega)
    exact first_mk (n := 3) (u := [u8 (128 + r / 64 % 64), u8 (128 + r % 64)]) (fw3 (by omega) (by omega)) rfl rfl (by simp [c, c']) (by simp only [acc, List.foldl_cons, List.foldl_nil, d, d', e, leadBits]; simp; omega) g
  · rw [form4 h0, g]
    have e := u8_toNat (x := 240 + r / 262144) (by omega) (by omega)
    have c := cont_u8 (x := r % 64) (by omega) (by omega)
    have d := low_u8 (x := r % 64) (by omega) (by omega)
    have c' := cont_u8 (x := r / 64 % 64) (by omega) (by omega)
    have d' := low_u8 (x := r / 64 % 64) (by omega) (by omega)
    have c'' := cont_u8 (x := r / 4096 % 64) (by omega) (by omega)
    have d'' := low_u8 (x := r / 4096 % 64) (by omega) (by omega)
    exact first_mk (n := 4) (u := [u8 (128 + r / 4096 % 64), u8 (128 + r / 64 % 64), u8 (128 + r % 64)]) (fw4 (by omega) (by omega)) rfl rfl (by simp [c, c', c'']) (by simp only [acc, List.foldl_cons, List.foldl_nil, d, d', d'', e, leadBits]; simp; omega) g

theorem dec_there (rs : List Int) : ∀ a, (∀ r ∈ rs, 0 < width r) → dec ((rs.flatMap form).map u8) a = (rs, 0, 0) := by
  induction rs with
  | nil => intro a _; exact dec_nil a
  | cons r rs ih =>
    intro a h
    have hr := h r (List.mem_cons_self ..)
    have hl := form_len hr
    rw [List.flatMap_cons, List.map_append, dec_step a (first_of_form hr _)]
    have e : ((form r).map u8 ++ (rs.flatMap form).map u8).drop (width r).toNat = (rs.flatMap form).map u8 :=
      List.drop_left' (by rw [List.length_map]; omega)
    rw [e, ih _ fun q hq => h q (List.mem_cons_of_mem _ hq)]
    rfl
end Go.Proofs.YteflghhpdikidaaDoor.Utf

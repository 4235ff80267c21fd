/-
  What is proved here: plain facts: texts stand byte by byte in the order of their runes. No program is in it.
-/
import Derived.Test.YtbpjenckkllbaaaDoorThere0
namespace Go.Proofs.YtbpjenckkllbaaaDoor.Utf
open Go

theorem less_append (p a b : List UInt8) : Op.bytesLess (p ++ a) (p ++ b) = Op.bytesLess a b := by
  induction p with
  | nil => rfl
  | cons c p ih => simp [Op.bytesLess, ih]
theorem less_u8 {p q : Int} (p0 : 0 ≤ p) (p1 : p < 256) (q0 : 0 ≤ q) (q1 : q < 256) (x y : List UInt8) :
    Op.bytesLess (u8 p :: x) (u8 q :: y) = (decide (p < q) || (decide (p = q) && Op.bytesLess x y)) := by
  have hp := u8_toNat p0 p1
  have hq := u8_toNat q0 q1
  have e1 : decide (u8 p < u8 q) = decide (p < q) := by
    rw [Bool.eq_iff_iff]; simp only [decide_eq_true_eq, UInt8.lt_iff_toNat_lt]; omega
  have e2 : (u8 p == u8 q) = decide (p = q) := by
    rw [Bool.eq_iff_iff]; simp only [beq_iff_eq, decide_eq_true_eq, ← UInt8.toNat_inj]; omega
  rw [Op.bytesLess, e1, e2]
theorem less_forms {x y : Int} (hx : 0 < width x) (hy : 0 < width y) (hne : x ≠ y) (a b : List UInt8) :
    Op.bytesLess ((form x).map u8 ++ a) ((form y).map u8 ++ b) = decide (x < y) := by
  rcases width_cases x with g | ⟨g, h0, h1⟩ | ⟨g, h0, h1⟩ | ⟨g, h0, h1⟩ | ⟨g, h0, h1⟩
  · omega
  all_goals clear hx g
  all_goals rcases width_cases y with g | ⟨g, i0, i1⟩ | ⟨g, i0, i1⟩ | ⟨g, i0, i1⟩ | ⟨g, i0, i1⟩
  all_goals try omega
  all_goals clear hy g
  all_goals first | rw [form1 (r := x) (by omega)] | rw [form2 (r := x) (by omega) (by omega)] | rw [form3 (r := x) (by omega) (by omega)] | rw [form4 (r := x) (by omega)]
  all_goals first | rw [form1 (r := y) (by omega)] | rw [form2 (r := y) (by omega) (by omega)] | rw [form3 (r := y) (by omega) (by omega)] | rw [form4 (r := y) (by omega)]
  all_goals simp only [List.map_cons, List.map_nil, List.cons_append, List.nil_append]
  all_goals repeat rw [less_u8 (by omega) (by omega) (by omega) (by omega)]
  all_goals generalize Op.bytesLess _ _ = z
  all_goals (cases z <;> rw [Bool.eq_iff_iff] <;> simp only [Bool.or_eq_true, Bool.and_eq_true, decide_eq_true_eq, and_true, and_false, or_false, Bool.false_eq_true] <;> omega)

theorem order {a b : List Int} {k : Nat} (ha : ∀ r ∈ a, 0 < width r) (hb : ∀ r ∈ b, 0 < width r) (hk : a.take k = b.take k) (hka : k ≤ a.length) (hkb : k ≤ b.length) (hend : k = a.length ∨ k = b.length ∨ a.getD k 0 ≠ b.getD k 0) :
    Op.bytesLess ((a.flatMap form).map u8) ((b.flatMap form).map u8) = (decide (k < b.length) && (decide (k = a.length) || decide (a.getD k 0 < b.getD k 0))) := by
  have ea : (a.flatMap form).map u8 = ((a.take k).flatMap form).map u8 ++ ((a.drop k).flatMap form).map u8 := by
    rw [← List.map_append, ← List.flatMap_append, List.take_append_drop]
  have eb : (b.flatMap form).map u8 = ((a.take k).flatMap form).map u8 ++ ((b.drop k).flatMap form).map u8 := by
    rw [hk, ← List.map_append, ← List.flatMap_append, List.take_append_drop]
  rw [ea, eb, less_append]
  clear ea eb
  by_cases hbl : k < b.length
  · have db := List.drop_eq_getElem_cons hbl
    have gb : b.getD k 0 = b[k] := by simp [List.getD, hbl]
    have mb := hb b[k] (List.getElem_mem hbl)
    rw [db, List.flatMap_cons, List.map_append, gb]
    have lb := form_len mb
    by_cases hal : k < a.length
    · have da := List.drop_eq_getElem_cons hal
      have ga : a.getD k 0 = a[k] := by simp [List.getD, hal]
      have ma := ha a[k] (List.getElem_mem hal)
      rw [da, List.flatMap_cons, List.map_append, ga]
      rw [ga, gb] at hend
      rw [less_forms ma mb (by omega)]
      have n1 : ¬ k = a.length := by omega
      simp [hbl, n1]
    · rw [List.drop_of_length_le (by omega)]
      have e : k = a.length := by omega
      obtain ⟨c, l, hc⟩ : ∃ c l, (form b[k]).map u8 = c :: l := by
        cases hf : form b[k] with
        | nil => rw [hf] at lb; simp at lb; omega
        | cons c l => exact ⟨_, _, rfl⟩
      rw [hc]
      simp [Op.bytesLess, e]
      omega
  · rw [List.drop_of_length_le (l := b) (by omega)]
    simp [hbl]
    cases (List.map u8 (List.flatMap form (List.drop k a))) <;> rfl
end Go.Proofs.YtbpjenckkllbaaaDoor.Utf

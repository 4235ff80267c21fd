/-
  What is proved here: a row of members made of values, and an int's digits: what the law JsonvalMakes leans on.
-/
import Derived.Test.YtjjoedkigjekcaaGreatDoorJW
import Derived.Test.YtjjoedkigjekcaaGreatDoorJQ
import Derived.Test.YtjjoedkigjekcaaGreatDoorJC
namespace Go.Proofs.YtjjoedkigjekcaaGreatDoor
open Go.RowKit

/-- an int as it is written -/
def itoaM (n : Int) : List UInt8 := if n < 0 then 45 :: digs 10 20 n.natAbs else digs 10 20 n.toNat
theorem digs_mono : ∀ f n, n < 10 ^ f → 0 < f → digs 10 f n = digs 10 (f + 1) n := by
  intro f
  induction f with
  | zero => intro n _ h; omega
  | succ f ih =>
    intro n h _
    rw [digs, digs]
    by_cases hlt : n < 10
    · rw [if_pos hlt, if_pos hlt]
    · rw [if_neg hlt, if_neg hlt]
      have hf : 0 < f := by
        rcases f with _ | f
        · simp at h; omega
        · omega
      rw [ih (n / 10) (by rw [Nat.pow_succ] at h; omega) hf]
theorem digs_parts (n : Nat) (h : n < 9223372036854775809) (h10 : 10 ≤ n) : digs 10 20 n = digs 10 20 (n / 10) ++ digs 10 20 (n % 10) := by
  have e1 : digs 10 20 n = digs 10 19 (n / 10) ++ [dig (n % 10)] := by
    rw [digs, if_neg (by omega)]
  have e2 : digs 10 20 (n % 10) = [dig (n % 10)] := by
    rw [digs, if_pos (by omega)]
  rw [e1, e2, digs_mono 19 (n / 10) (by omega) (by omega)]
/-- the cells of a row of members of one name -/
def rowC (S : ByteArray) (C : Nat → List Value) : Nat → List Value
  | 0 => []
  | i + 1 => rowC S C i ++ .string S :: C i
theorem rowC_len {S : ByteArray} {C : Nat → List Value} : ∀ i, (∀ j, j < i → (C j).length = 4) → (rowC S C i).length = i * 5
  | 0, _ => rfl
  | i + 1, h => by
    rw [rowC, List.length_append, rowC_len i (fun j hj => h j (by omega)), List.length_cons, h i (by omega)]; omega
theorem rowC_at {S : ByteArray} {C : Nat → List Value} : ∀ i, (∀ j, j < i → (C j).length = 4) → ∀ j q, j < i → q < 5 → (rowC S C i)[j * 5 + q]? = (Value.string S :: C j)[q]?
  | i + 1, h, j, q, hj, hq => by
    have hl := rowC_len (S := S) i (fun j hj => h j (by omega))
    rw [rowC]
    rcases Nat.lt_or_ge j i with g | g
    · rw [List.getElem?_append_left (by omega)]
      exact rowC_at i (fun j hj => h j (by omega)) j q g hq
    · obtain rfl : j = i := by omega
      rw [List.getElem?_append_right (by omega)]
      congr 1
      omega
theorem sm_row {W : World} {B : Nat} {v : Value} {s : List UInt8} {l : List J} {C : Nat → List Value} (ho : W.ownsRow B 43 5 v l.length (rowC (strL s) C l.length)) (hC : ∀ j t, l[j]? = some t → (C j).length = 4 ∧ VJ W t (C j)) : SM W v (l.map fun t => (s, t)) := by
  have h4 : ∀ j, j < l.length → (C j).length = 4 := fun j hj => (hC j _ (List.getElem?_eq_getElem hj)).1
  have ho' := ho
  rcases ho.2 with ⟨rfl, h0⟩ | ⟨g, cap, cur, rfl, _, _⟩
  · refine ⟨none, 0, by rw [List.length_map, h0], fun j x hj => ?_⟩
    have := (List.getElem?_eq_some_iff.1 hj).1
    rw [List.length_map] at this
    omega
  · refine ⟨some ⟨g, 0, none⟩, cap, by rw [List.length_map], fun j x hj => ?_⟩
    rw [List.getElem?_map] at hj
    cases e : l[j]? with
    | none => rw [e] at hj; cases hj
    | some t =>
      rw [e] at hj
      cases hj
      have hjl := (List.getElem?_eq_some_iff.1 e).1
      obtain ⟨hc4, hv⟩ := hC j t e
      refine ⟨g, 0, C j, rfl, ⟨by rw [List.length_cons, hc4], fun i u hu => ?_⟩, hv⟩
      have hi : i < 5 := by
        have := (List.getElem?_eq_some_iff.1 hu).1
        rw [List.length_cons, hc4] at this
        exact this
      rw [Nat.zero_add, ho'.cellAt (j * 5 + i) (by omega), rowC_at l.length h4 j i hjl hi]
      exact hu
theorem Tryz.infoMember : (Tryz.prog.info? 43).map (fun i => (i.zero, i.size, i.bytes)) = some (some (.agg #[.string ⟨#[]⟩, .int .i64 0, .string ⟨#[]⟩, .slice none 0 0, .slice none 0 0]), 5, 88) := by kernel_rfl
end Go.Proofs.YtjjoedkigjekcaaGreatDoor

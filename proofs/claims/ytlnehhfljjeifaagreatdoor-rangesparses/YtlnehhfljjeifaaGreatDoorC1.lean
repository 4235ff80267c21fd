/-
  What is proved here: what the reference's Build answers at any ranges.
-/
import Derived.Test.YtlnehhfljjeifaaGreatDoorC0
import Derived.Test.YtlnehhfljjeifaaGreatDoorP5
namespace Go.Proofs.YtlnehhfljjeifaaGreatDoor
open Go.RowKit

theorem take_ins_lt {t : List Rg} {i k : Nat} {r : Rg} (h1 : i < k) (hk : k < t.length) : (insAt t i r).take (k + 1) ++ [t.getD k default] = (insAt t i r).take (k + 1 + 1) := by
  have hl : k + 1 < (insAt t i r).length := by rw [insAt_len _ _ _ (by omega)]; omega
  rw [List.take_succ_eq_append_getElem hl]
  congr 2
  have e1 : (insAt t i r)[k + 1]? = t[k]? := by
    unfold insAt
    rw [List.getElem?_append_right (by simp; omega)]
    have e : k + 1 - (t.take i).length = (k - i) + 1 := by simp; omega
    rw [e, List.getElem?_cons_succ, List.getElem?_drop]
    congr 1
    omega
  rw [List.getElem?_eq_getElem hl, List.getElem?_eq_getElem hk] at e1
  rw [getD_eq hk]
  exact (Option.some.inj e1).symm
theorem take_ins_at {t : List Rg} {i : Nat} {r : Rg} (h : i < t.length) : t.take i ++ [r] ++ [t.getD i default] = (insAt t i r).take (i + 1 + 1) := by
  unfold insAt
  rw [drop_cons3 h]
  have h3 : i + 1 + 1 = (t.take i ++ [r, t.getD i default]).length := by simp; omega
  have e : t.take i ++ r :: t.getD i default :: t.drop (i + 1) = (t.take i ++ [r, t.getD i default]) ++ t.drop (i + 1) := by simp
  rw [e, h3, List.take_left]; simp
theorem take_ins_all {t : List Rg} {i : Nat} {r : Rg} (h : i ≤ t.length) : (insAt t i r).take (t.length + 1) = insAt t i r := by
  rw [← insAt_len t i r h, List.take_length]
theorem own_weaken {w : World} {B B' : Nat} {e : TypeId} {k n : Nat} {v : Value} {xs : List Value} (h : w.ownsRow B' e k v n xs) (hB : B ≤ B') : w.ownsRow B e k v n xs := by
  refine ⟨h.1, ?_⟩
  rcases h.2 with h1 | ⟨g, cap, cur, h1, h2, h3⟩
  · exact .inl h1
  · exact .inr ⟨g, cap, cur, h1, by omega, h3⟩
theorem buildM_nil : buildM [] = ([], 0, 0) := rfl
end Go.Proofs.YtlnehhfljjeifaaGreatDoor

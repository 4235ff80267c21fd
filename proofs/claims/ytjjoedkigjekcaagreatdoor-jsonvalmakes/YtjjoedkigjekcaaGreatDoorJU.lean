/-
  What is proved here: the law JsonvalEquals answers true at any two values and any name.
-/
import Derived.Test.YtjjoedkigjekcaaGreatDoorJS
import Derived.Test.YtjjoedkigjekcaaGreatDoorJT
import Derived.Test.YtjjoedkigjekcaaGreatDoorJE
namespace Go.Proofs.YtjjoedkigjekcaaGreatDoor
open Go.RowKit

def zeroJ : J := .mk 0 [] [] []
theorem zero_good : Good gd zeroJ := by
  refine (Good_mk ..).2 ⟨⟨⟨⟨by decide, by decide⟩, fun _ _ => rfl, fun _ => rfl, fun _ => rfl, fun h => absurd h (by decide)⟩, fun h => absurd h (by decide), ?_, ?_⟩, ?_, ?_⟩
  all_goals simp
theorem getM_some {m : List (List UInt8 × J)} {n : List UInt8} {v : J} (h : getM m n = some v) : ∃ (i : Nat) (x : List UInt8 × J), m[i]? = some x ∧ x.1 = n ∧ x.2 = v := by
  unfold getM at h
  cases e : m.find? fun x => x.1 == n with
  | none => rw [e] at h; cases h
  | some x =>
    rw [e] at h
    cases h
    obtain ⟨i, hi⟩ := List.mem_iff_getElem?.1 (List.mem_of_find?_eq_some e)
    exact ⟨i, x, hi, by simpa using List.find?_some e, rfl⟩
theorem getM_at {m : List (List UInt8 × J)} (hn : (m.map fun x => x.1).Nodup) {n : List UInt8} {i : Nat} {x : List UInt8 × J} (h : m[i]? = some x) (e : x.1 = n) : getM m n = some x.2 := by
  cases g : getM m n with
  | none =>
    unfold getM at g
    have g' : (m.find? fun x => x.1 == n) = none := by simpa using g
    have := List.find?_eq_none.1 g' x (List.mem_of_getElem? h)
    simp [e] at this
  | some v =>
    obtain ⟨j, y, hy, hyn, rfl⟩ := getM_some g
    obtain ⟨-, rfl⟩ := nodup_at hn hy h (hyn.trans e.symm)
    rfl
theorem good_names {t : J} (h : Good gd t) : (t.m.map fun x => x.1).Nodup := by
  cases t
  exact ((Good_mk ..).1 h).1.2.2.2
theorem good_member {t : J} (h : Good gd t) {i : Nat} {x : List UInt8 × J} (hx : t.m[i]? = some x) : Good gd x.2 := by
  cases t
  exact ((Good_mk ..).1 h).2.2 x (List.mem_of_getElem? hx)
theorem weight_member {t : J} {B : Nat} (h : weight t ≤ B) {i : Nat} {x : List UInt8 × J} (hx : t.m[i]? = some x) : weight x.2 ≤ B := by
  cases t
  have := (weight_parts h).2.2.2.2 x (List.mem_of_getElem? hx)
  omega
theorem get_good {t : J} (h : Good gd t) (n : List UInt8) : Good gd ((getM t.m n).getD zeroJ) := by
  cases g : getM t.m n with
  | none => exact zero_good
  | some v =>
    obtain ⟨i, x, hx, -, rfl⟩ := getM_some g
    exact good_member h hx
theorem get_weight {t : J} {B : Nat} (hB : 1 ≤ B) (h : weight t ≤ B) (n : List UInt8) : weight ((getM t.m n).getD zeroJ) ≤ B := by
  cases g : getM t.m n with
  | none => simp [zeroJ, weight_mk]; exact hB
  | some v =>
    obtain ⟨i, x, hx, -, rfl⟩ := getM_some g
    exact weight_member h hx
theorem eqv_get {t t' : J} (hg : Good gd t) (hg' : Good gd t') (h : Eqv t t') (n : List UInt8) : (getM t.m n).isSome = (getM t'.m n).isSome ∧ Eqv ((getM t.m n).getD zeroJ) ((getM t'.m n).getD zeroJ) := by
  have fwd : ∀ {t t' : J}, Good gd t' → Eqv t t' → ∀ v, getM t.m n = some v → ∃ v', getM t'.m n = some v' ∧ Eqv v v' := fun {t t'} hg' h v hv => by
    obtain ⟨i, x, hx, e, rfl⟩ := getM_some hv
    cases t
    obtain ⟨-, -, -, -, -, h6⟩ := (Eqv_mk ..).1 h
    obtain ⟨q, y, hy, e2, h7⟩ := h6 i x hx
    exact ⟨y.2, getM_at (good_names hg') hy (e2.trans e), h7⟩
  cases g : getM t.m n with
  | some v =>
    obtain ⟨v', g', hv⟩ := fwd hg' h v g
    rw [g']
    exact ⟨rfl, hv⟩
  | none =>
    cases g' : getM t'.m n with
    | none => exact ⟨rfl, Eqv.refl _⟩
    | some v' =>
      obtain ⟨v, g2, -⟩ := fwd hg (Eqv.symm gd t t' hg hg' h) v' g'
      rw [g] at g2
      cases g2
theorem cell_forms {W : World} {t : J} {cs : List Value} (h : VJ W t cs) : ∃ (k : Int) (S : ByteArray) (a : Option Addr) (n ca : Nat) (b : Option Addr) (m cb : Nat), cs = [.int .i64 k, .string S, .slice a n ca, .slice b m cb] := by
  obtain ⟨a, ca, b, cb, rfl, -, -⟩ := h.parts
  exact ⟨_, _, _, _, _, _, _, _, rfl⟩
end Go.Proofs.YtjjoedkigjekcaaGreatDoor

/-
  What is proved here: plain mathematics of equal values: it is one way round as the other, and each value is equal to itself. No program is in it.
-/
import Derived.Test.YtjjoedkigjekcaaGreatDoorMJ
namespace Go.Proofs.YtjjoedkigjekcaaGreatDoor

/-- values are equal, whatever the order of members -/
def Eqv : J → J → Prop := J.fold fun k s l m b =>
  k = b.k ∧ s = b.s ∧ l.length = b.l.length ∧ m.length = b.m.length ∧ (∀ (j : Nat) P y, l[j]? = some P → b.l[j]? = some y → P y) ∧ ∀ (j : Nat) P, m[j]? = some P → ∃ (i : Nat) (y : List UInt8 × J), b.m[i]? = some y ∧ y.1 = P.1 ∧ P.2 y.2
theorem Eqv_mk (k : Int) (s : List UInt8) (l : List J) (m : List (List UInt8 × J)) (b : J) :
    Eqv (.mk k s l m) b ↔ k = b.k ∧ s = b.s ∧ l.length = b.l.length ∧ m.length = b.m.length ∧ (∀ (j : Nat) x y, l[j]? = some x → b.l[j]? = some y → Eqv x y) ∧ ∀ (j : Nat) x, m[j]? = some x → ∃ (i : Nat) (y : List UInt8 × J), b.m[i]? = some y ∧ y.1 = x.1 ∧ Eqv x.2 y.2 := by
  unfold Eqv
  rw [J.fold_mk]
  simp only [List.length_map, List.getElem?_map]
  constructor
  · rintro ⟨h1, h2, h3, h4, h5, h6⟩
    exact ⟨h1, h2, h3, h4, fun j x y hx hy => h5 j _ y (by rw [hx]; rfl) hy, fun j x hx => h6 j (x.1, _) (by rw [hx]; rfl)⟩
  · rintro ⟨h1, h2, h3, h4, h5, h6⟩
    refine ⟨h1, h2, h3, h4, fun j P y hP hy => ?_, fun j P hP => ?_⟩
    · cases e : l[j]? with
      | none => rw [e] at hP; cases hP
      | some x => rw [e] at hP; cases hP; exact h5 j x y e hy
    · cases e : m[j]? with
      | none => rw [e] at hP; cases hP
      | some x => rw [e] at hP; cases hP; exact h6 j x e
theorem Eqv.refl : ∀ t : J, Eqv t t := by
  refine J.ind ?_
  intro k s l m ihl ihm
  refine (Eqv_mk ..).2 ⟨rfl, rfl, rfl, rfl, fun j x y hx hy => ?_, fun j x hx => ⟨j, x, hx, rfl, ihm x (List.mem_of_getElem? hx)⟩⟩
  obtain rfl := Option.some.inj (hx.symm.trans hy)
  exact ihl x (List.mem_of_getElem? hx)
theorem nodup_at {m : List (List UInt8 × J)} (hn : (m.map fun x => x.1).Nodup) {i j : Nat} {x y : List UInt8 × J} (hx : m[i]? = some x) (hy : m[j]? = some y) (h : x.1 = y.1) : i = j ∧ x = y := by
  have e : (m.map fun x => x.1)[i]? = (m.map fun x => x.1)[j]? := by rw [List.getElem?_map, List.getElem?_map, hx, hy]; simp [h]
  obtain ⟨hi, -⟩ := List.getElem?_eq_some_iff.1 hx
  have := (List.getElem?_inj (by rw [List.length_map]; exact hi) hn).1 e
  subst this
  exact ⟨rfl, Option.some.inj (hx.symm.trans hy)⟩
/-- names of one list that are among those of another one that is no longer: all of that one's are among them -/
theorem names_back {m m' : List (List UInt8)} (hn : m.Nodup) (hl : m.length = m'.length) (h : ∀ x ∈ m, x ∈ m') : ∀ x ∈ m', x ∈ m := by
  induction m generalizing m' with
  | nil =>
    intro x hx
    have : m' = [] := List.length_eq_zero_iff.1 hl.symm
    rw [this] at hx; exact hx
  | cons a m ih =>
    have ha := h a (by simp)
    obtain ⟨ha1, ha2⟩ := List.nodup_cons.1 hn
    have hl2 : m.length = (m'.erase a).length := by rw [List.length_erase_of_mem ha, ← hl]; rfl
    have h2 : ∀ x ∈ m, x ∈ m'.erase a := fun x hx => (List.mem_erase_of_ne (fun e => ha1 (by rw [← e]; exact hx))).2 (h x (by simp [hx]))
    intro x hx
    by_cases e : x = a
    · simp [e]
    · exact List.mem_cons_of_mem _ (ih ha2 hl2 h2 x ((List.mem_erase_of_ne e).2 hx))
theorem Eqv.symm (gd : List UInt8 → Bool) : ∀ t : J, ∀ t' : J, Good gd t → Good gd t' → Eqv t t' → Eqv t' t := by
  refine J.ind ?_
  intro k s l m ihl ihm t' hg hg' h
  obtain ⟨k', s', l', m'⟩ := t'
  obtain ⟨h1, h2, h3, h4, h5, h6⟩ := (Eqv_mk ..).1 h
  simp only [J.k, J.s, J.l, J.m] at h1 h2 h3 h4 h5 h6
  obtain ⟨⟨-, -, -, hn⟩, hL, hM⟩ := (Good_mk ..).1 hg
  obtain ⟨⟨-, -, -, hn'⟩, hL', hM'⟩ := (Good_mk ..).1 hg'
  refine (Eqv_mk ..).2 ⟨h1.symm, h2.symm, h3.symm, h4.symm, fun j x y hx hy => ?_, fun j y hy => ?_⟩
  · exact ihl y (List.mem_of_getElem? hy) x (hL y (List.mem_of_getElem? hy)) (hL' x (List.mem_of_getElem? hx)) (h5 j y x hy hx)
  · have hb := names_back hn (by simpa using h4) (fun x hx => by
      obtain ⟨p, hp, rfl⟩ := List.mem_map.1 hx
      obtain ⟨i, hi⟩ := List.mem_iff_getElem?.1 hp
      obtain ⟨q, z, hq, e, -⟩ := h6 i p hi
      exact List.mem_map.2 ⟨z, List.mem_of_getElem? hq, e⟩) y.1 (List.mem_map_of_mem (f := fun x : List UInt8 × J => x.1) (List.mem_of_getElem? hy))
    obtain ⟨x, hxm, hxn⟩ := List.mem_map.1 hb
    obtain ⟨i, hx⟩ := List.mem_iff_getElem?.1 hxm
    obtain ⟨q, z, hq, e, hv⟩ := h6 i x hx
    obtain ⟨-, rfl⟩ := nodup_at hn' hq hy (e.trans hxn)
    exact ⟨i, x, hx, hxn, ihm x hxm z.2 (hM x hxm) (hM' z (List.mem_of_getElem? hq)) hv⟩
end Go.Proofs.YtjjoedkigjekcaaGreatDoor

/-
  What is proved here: plain mathematics of canonical order (no program): what a list is put in order to; neighbours that change places leave it as it was; what is in order stays.
-/
import Derived.Test.YtoceaielclomcaaRRGreatDoorA0
namespace Go.Proofs.YtoceaielclomcaaRRGreatDoor

section
variable (c : Int → Int)
/-- x put in, from behind, ahead of those of greater classes (the list is told from behind) -/
def insR (x : Int) : List Int → List Int
  | [] => [x]
  | y :: ys => if 0 < c x ∧ c x < c y then y :: insR x ys else x :: y :: ys
def orderR (l acc : List Int) : List Int := l.foldl (fun a x => insR c x a) acc
/-- a list put in order -/
def orderM (l : List Int) : List Int := (orderR c l []).reverse
theorem insR_swap (a b : Int) (hb : 0 < c b) (hab : c b < c a) (acc : List Int) : insR c b (insR c a acc) = insR c a (insR c b acc) := by
  induction acc with
  | nil =>
    simp only [insR]
    rw [if_pos ⟨hb, hab⟩, if_neg (by omega)]
  | cons y ys ih =>
    by_cases h : 0 < c a ∧ c a < c y
    · have hb' : 0 < c b ∧ c b < c y := ⟨hb, by omega⟩
      simp only [insR, if_pos h, if_pos hb']
      rw [ih]
    · have e1 : insR c a (y :: ys) = a :: y :: ys := by simp only [insR]; rw [if_neg h]
      have hy : c y ≤ c a := by omega
      rw [e1]
      have e2 : insR c b (a :: y :: ys) = a :: insR c b (y :: ys) := by rw [insR, if_pos ⟨hb, hab⟩]
      rw [e2]
      by_cases h2 : 0 < c b ∧ c b < c y
      · simp only [insR, if_pos h2]
        rw [if_neg (by omega)]
      · simp only [insR, if_neg h2]
        rw [if_neg (by omega)]
theorem orderR_append (l l' acc : List Int) : orderR c (l ++ l') acc = orderR c l' (orderR c l acc) := by
  unfold orderR; rw [List.foldl_append]
theorem orderM_swap (l l' : List Int) (a b : Int) (hb : 0 < c b) (hab : c b < c a) : orderM c (l ++ a :: b :: l') = orderM c (l ++ b :: a :: l') := by
  unfold orderM
  rw [orderR_append, orderR_append]
  show (orderR c l' (insR c b (insR c a _))).reverse = (orderR c l' (insR c a (insR c b _))).reverse
  rw [insR_swap c a b hb hab]
/-- no rune of a class stands behind one of a greater class -/
def InOrder (l : List Int) : Prop := ∀ i, i + 1 < l.length → ¬ (0 < c (l.getD (i + 1) 0) ∧ c (l.getD (i + 1) 0) < c (l.getD i 0))
theorem orderR_in (l acc : List Int) (h : InOrder c l) (h0 : ∀ x y, l.head? = some x → acc.head? = some y → ¬ (0 < c x ∧ c x < c y)) : orderR c l acc = l.reverse ++ acc := by
  induction l generalizing acc with
  | nil => rfl
  | cons x xs ih =>
    have e : insR c x acc = x :: acc := by
      cases acc with
      | nil => rfl
      | cons y ys => rw [insR, if_neg (h0 x y rfl rfl)]
    show orderR c xs (insR c x acc) = _
    rw [e, ih]
    · simp
    · intro i hi
      have := h (i + 1) (by simpa using hi)
      simpa using this
    · intro a b ha hb
      cases xs with
      | nil => simp at ha
      | cons z zs =>
        simp at ha hb
        subst ha hb
        have := h 0 (by simp)
        simpa using this
theorem orderM_in (l : List Int) (h : InOrder c l) : orderM c l = l := by
  unfold orderM
  rw [orderR_in c l [] h (by simp)]
  simp
theorem insR_perm (x : Int) (l : List Int) : (insR c x l).Perm (x :: l) := by
  induction l with
  | nil => exact List.Perm.refl _
  | cons y ys ih =>
    unfold insR
    split
    · exact (List.Perm.cons y ih).trans (List.Perm.swap x y ys)
    · exact List.Perm.refl _
theorem orderR_perm (l acc : List Int) : (orderR c l acc).Perm (l ++ acc) := by
  induction l generalizing acc with
  | nil => exact List.Perm.refl _
  | cons x xs ih =>
    refine (ih _).trans ?_
    refine (List.Perm.append_left xs (insR_perm c x acc)).trans ?_
    exact List.perm_middle
theorem orderM_perm (l : List Int) : (orderM c l).Perm l := by
  unfold orderM
  refine (List.reverse_perm _).trans ?_
  simpa using orderR_perm c l []
/-- the list told from behind is in order -/
def InR : List Int → Prop
  | [] => True
  | [_] => True
  | x :: y :: l => ¬ (0 < c x ∧ c x < c y) ∧ InR (y :: l)
theorem InR.tail {x : Int} {l : List Int} (h : InR c (x :: l)) : InR c l := by
  cases l with
  | nil => trivial
  | cons y l => exact h.2
theorem insR_head (x : Int) (y : Int) (ys : List Int) (_hx : 0 < c x ∧ c x < c y) : ∃ z zs, insR c x ys = z :: zs ∧ (z = x ∨ ys.head? = some z) := by
  cases ys with
  | nil => exact ⟨x, [], rfl, .inl rfl⟩
  | cons u us =>
    unfold insR
    split
    · exact ⟨u, _, rfl, .inr rfl⟩
    · exact ⟨x, _, rfl, .inl rfl⟩
theorem insR_in (x : Int) (l : List Int) (h : InR c l) : InR c (insR c x l) := by
  induction l with
  | nil => trivial
  | cons y ys ih =>
    unfold insR
    split
    · rename_i hx
      have ih' := ih (InR.tail c h)
      obtain ⟨z, zs, e, hz⟩ := insR_head c x y ys hx
      rw [e] at ih' ⊢
      refine ⟨?_, ih'⟩
      rcases hz with rfl | hz
      · omega
      · cases ys with
        | nil => simp at hz
        | cons u us =>
          simp at hz
          subst hz
          exact h.1
    · rename_i hx
      exact ⟨hx, h⟩
theorem orderR_inR (l acc : List Int) (h : InR c acc) : InR c (orderR c l acc) := by
  induction l generalizing acc with
  | nil => exact h
  | cons x xs ih => exact ih _ (insR_in c x acc h)
theorem inR_inOrder (l : List Int) (h : InR c l) : InOrder c l.reverse := by
  induction l with
  | nil => intro i hi; simp at hi
  | cons x l ih =>
    intro i hi
    simp only [List.length_reverse, List.length_cons] at hi
    rw [List.reverse_cons]
    by_cases g : i + 1 < l.length
    · have := ih (InR.tail c h) i (by simpa using g)
      have e1 : (l.reverse ++ [x]).getD (i + 1) 0 = l.reverse.getD (i + 1) 0 := by rw [List.getD, List.getD, List.getElem?_append_left (by simpa using g)]
      have e2 : (l.reverse ++ [x]).getD i 0 = l.reverse.getD i 0 := by rw [List.getD, List.getD, List.getElem?_append_left (by simp; omega)]
      rw [e1, e2]
      exact this
    · obtain ⟨y, ys, rfl⟩ : ∃ y ys, l = y :: ys := by
        cases l with
        | nil => simp at hi
        | cons y ys => exact ⟨y, ys, rfl⟩
      simp only [List.length_cons] at hi g
      obtain rfl : i = ys.length := by omega
      have h1 : ((y :: ys).reverse ++ [x]).getD (ys.length + 1) 0 = x := by simp [List.getD]
      have h2 : ((y :: ys).reverse ++ [x]).getD ys.length 0 = y := by simp [List.getD]
      rw [h1, h2]
      exact h.1
theorem orderM_inOrder (l : List Int) : InOrder c (orderM c l) := inR_inOrder c _ (orderR_inR c l [] trivial)
theorem orderM_idem (l : List Int) : orderM c (orderM c l) = orderM c l := orderM_in c _ (orderM_inOrder c l)
theorem insR_cons (x y : Int) (ys : List Int) : insR c x (y :: ys) = if 0 < c x ∧ c x < c y then y :: insR c x ys else x :: y :: ys := rfl
theorem orderR_one (x : Int) (acc : List Int) : orderR c [x] acc = insR c x acc := rfl
theorem orderR_insR (x : Int) (R acc : List Int) : orderR c (insR c x R).reverse acc = insR c x (orderR c R.reverse acc) := by
  induction R generalizing acc with
  | nil => rfl
  | cons y ys ih =>
    rw [insR_cons]
    split
    · rename_i h
      rw [List.reverse_cons, orderR_append, ih, List.reverse_cons, orderR_append, orderR_one, orderR_one]
      exact (insR_swap c y x h.1 h.2 _).symm
    · rw [List.reverse_cons, orderR_append, orderR_one]
theorem orderR_orderR (l R acc : List Int) : orderR c (orderR c l R).reverse acc = orderR c l (orderR c R.reverse acc) := by
  induction l generalizing R with
  | nil => rfl
  | cons x xs ih =>
    show orderR c (orderR c xs (insR c x R)).reverse acc = orderR c xs (insR c x (orderR c R.reverse acc))
    rw [ih, orderR_insR]
theorem orderR_orderM (l acc : List Int) : orderR c (orderM c l) acc = orderR c l acc := by
  unfold orderM
  rw [orderR_orderR]
  rfl
/-- two lists in order, one behind the other -/
theorem orderM_append (l l' : List Int) : orderM c (orderM c l ++ orderM c l') = orderM c (l ++ l') := by
  conv => lhs; unfold orderM
  conv => rhs; unfold orderM
  rw [orderR_append, orderR_append]
  show (orderR c (orderM c l') (orderR c (orderM c l) [])).reverse = _
  rw [orderR_orderM, orderR_orderM]
end
end Go.Proofs.YtoceaielclomcaaRRGreatDoor

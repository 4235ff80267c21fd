/-
  What is proved here: plain mathematics of a stable sort (no program): neighbours of which the first is greater change places; blocks that are rotated; two rows in order that are put together.
-/
import Derived.Test.YtoceaielclomcaaRRGreatDoorO0
namespace Go.Proofs.YtoceaielclomcaaRRGreatDoor

section
variable (c : Int → Int)
/-- neighbours from a on and ahead of b of which the first is greater have changed places, some times -/
inductive Bub (a b : Nat) : List Int → List Int → Prop
  | refl (l : List Int) : Bub a b l l
  | step (P Q : List Int) (x y : Int) (l' : List Int) (ha : a ≤ P.length) (hb : P.length + 2 ≤ b) (hc : c y < c x) (h : Bub a b (P ++ y :: x :: Q) l') : Bub a b (P ++ x :: y :: Q) l'
variable {c}
theorem Bub.trans {a b : Nat} {l l' l'' : List Int} (h : Bub c a b l l') (h' : Bub c a b l' l'') : Bub c a b l l'' := by
  induction h with
  | refl l => exact h'
  | step P Q x y l' ha hb hc _ ih => exact .step P Q x y _ ha hb hc (ih h')
theorem Bub.mono {a b a' b' : Nat} {l l' : List Int} (h : Bub c a b l l') (ha : a' ≤ a) (hb : b ≤ b') : Bub c a' b' l l' := by
  induction h with
  | refl l => exact .refl l
  | step P Q x y l' h1 h2 hc _ ih => exact .step P Q x y _ (by omega) (by omega) hc ih
theorem Bub.length {a b : Nat} {l l' : List Int} (h : Bub c a b l l') : l'.length = l.length := by
  induction h with
  | refl l => rfl
  | step P Q x y l' h1 h2 hc _ ih => rw [ih]; simp
theorem Bub.perm {a b : Nat} {l l' : List Int} (h : Bub c a b l l') : l'.Perm l := by
  induction h with
  | refl l => exact .refl l
  | step P Q x y l' h1 h2 hc _ ih => exact ih.trans (List.Perm.append_left P (List.Perm.swap x y Q))
theorem Bub.order {a b : Nat} {l l' : List Int} (h : Bub c a b l l') (hp : ∀ x ∈ l, 0 < c x) (A B : List Int) : orderM c (A ++ l ++ B) = orderM c (A ++ l' ++ B) := by
  induction h with
  | refl l => rfl
  | step P Q x y l' h1 h2 hc _ ih =>
    rw [← ih (fun z hz => hp z (by simp at hz ⊢; rcases hz with h | h | h | h <;> simp [h]))]
    have := orderM_swap c (A ++ P) (Q ++ B) x y (hp y (by simp)) hc
    simpa using this
theorem getD_swap (P Q : List Int) (x y : Int) (i : Nat) : (P ++ y :: x :: Q).getD i 0 = if i = P.length then y else if i = P.length + 1 then x else (P ++ x :: y :: Q).getD i 0 := by
  rcases Nat.lt_trichotomy i P.length with g | rfl | g
  · rw [if_neg (by omega), if_neg (by omega)]
    simp [List.getD, List.getElem?_append_left g]
  · simp [List.getD]
  · rw [if_neg (by omega)]
    obtain ⟨k, rfl⟩ : ∃ k, i = P.length + 1 + k := ⟨i - P.length - 1, by omega⟩
    cases k with
    | zero => simp [List.getD]
    | succ k =>
      rw [if_neg (by omega)]
      have e : P.length + 1 + (k + 1) = P.length + (k + 2) := by omega
      rw [e]
      simp [List.getD, List.getElem?_append_right]
theorem getD_at (P Q : List Int) (x y : Int) : (P ++ x :: y :: Q).getD P.length 0 = x ∧ (P ++ x :: y :: Q).getD (P.length + 1) 0 = y := by
  simp [List.getD]
/-- what stands from a on and ahead of b stood there before -/
theorem Bub.from {a b : Nat} {l l' : List Int} (h : Bub c a b l l') : (∀ i, i < a ∨ b ≤ i → l'.getD i 0 = l.getD i 0) ∧ ∀ i, a ≤ i → i < b → ∃ j, a ≤ j ∧ j < b ∧ l'.getD i 0 = l.getD j 0 := by
  induction h with
  | refl l => exact ⟨fun _ _ => rfl, fun i h1 h2 => ⟨i, h1, h2, rfl⟩⟩
  | step P Q x y l' h1 h2 hc _ ih =>
    have e := getD_swap P Q x y
    have e' := getD_at P Q x y
    refine ⟨fun i hi => ?_, fun i hi1 hi2 => ?_⟩
    · rw [ih.1 i hi, e, if_neg (by omega), if_neg (by omega)]
    · obtain ⟨j, j1, j2, ej⟩ := ih.2 i hi1 hi2
      rw [ej, e]
      by_cases g : j = P.length
      · exact ⟨P.length + 1, by omega, by omega, by rw [if_pos g, e'.2]⟩
      · by_cases g' : j = P.length + 1
        · exact ⟨P.length, by omega, by omega, by rw [if_neg g, if_pos g', e'.1]⟩
        · exact ⟨j, j1, j2, by rw [if_neg g, if_neg g']⟩
theorem Bub.move (a b : Nat) (P X Q : List Int) (y : Int) (ha : a ≤ P.length) (hb : P.length + X.length + 1 ≤ b) (h : ∀ x ∈ X, c y < c x) : Bub c a b (P ++ X ++ y :: Q) (P ++ y :: X ++ Q) := by
  induction X generalizing P with
  | nil => simpa using Bub.refl (c := c) _
  | cons x X ih =>
    have h1 := ih (P ++ [x]) (by simp; omega) (by simp at hb ⊢; omega) (fun z hz => h z (by simp [hz]))
    have h2 : Bub c a b (P ++ x :: y :: (X ++ Q)) (P ++ y :: x :: (X ++ Q)) := .step P (X ++ Q) x y _ ha (by simp at hb; omega) (h x (by simp)) (.refl _)
    simp only [List.append_assoc, List.cons_append, List.nil_append] at h1 h2 ⊢
    exact h1.trans h2
/-- blocks of which the first is greater, rotated -/
theorem Bub.rot (a b : Nat) (P X Y Q : List Int) (ha : a ≤ P.length) (hb : P.length + X.length + Y.length ≤ b) (h : ∀ x ∈ X, ∀ y ∈ Y, c y < c x) : Bub c a b (P ++ X ++ Y ++ Q) (P ++ Y ++ X ++ Q) := by
  induction Y generalizing P with
  | nil => simpa using Bub.refl (c := c) _
  | cons y Y ih =>
    have h1 := Bub.move (c := c) a b P X (Y ++ Q) y ha (by simp at hb; omega) (fun x hx => h x hx y (by simp))
    have h2 := ih (P ++ [y]) (by simp; omega) (by simp at hb ⊢; omega) (fun x hx z hz => h x hx z (by simp [hz]))
    simp only [List.append_assoc, List.cons_append, List.nil_append] at h1 h2 ⊢
    exact h1.trans h2
variable (c)
/-- in order from a on and ahead of b -/
def Srt (a b : Nat) (l : List Int) : Prop := ∀ i j, a ≤ i → i < j → j < b → c (l.getD i 0) ≤ c (l.getD j 0)
variable {c}
theorem Srt.le {a b : Nat} {l : List Int} (h : Srt c a b l) {i j : Nat} (h1 : a ≤ i) (h2 : i ≤ j) (h3 : j < b) : c (l.getD i 0) ≤ c (l.getD j 0) := by
  rcases Nat.eq_or_lt_of_le h2 with rfl | g
  · exact Int.le_refl _
  · exact h i j h1 g h3
theorem Srt.one (a : Nat) (l : List Int) : Srt c a (a + 1) l := fun i j h1 h2 h3 => by omega
/-- what is outside is as it was -/
theorem Srt.out {a b a' b' : Nat} {l l' : List Int} (h : Srt c a b l) (hb : Bub c a' b' l l') (hd : b ≤ a' ∨ b' ≤ a) : Srt c a b l' := fun i j h1 h2 h3 => by
  rw [hb.from.1 i (by omega), hb.from.1 j (by omega)]
  exact h i j h1 h2 h3
/-- two halves in order, the first of which is not above the second -/
theorem Srt.both {a m b : Nat} {l : List Int} (h1 : Srt c a m l) (h2 : Srt c m b l) (h : ∀ i j, a ≤ i → i < m → m ≤ j → j < b → c (l.getD i 0) ≤ c (l.getD j 0)) : Srt c a b l := fun i j hi hij hj => by
  rcases Nat.lt_or_ge j m with g | g
  · exact h1 i j hi hij g
  · rcases Nat.lt_or_ge i m with g' | g'
    · exact h i j hi g' g hj
    · exact h2 i j g' hij hj
theorem cross_keep {a m b : Nat} {l l1 l2 : List Int} (h1 : Bub c a m l l1) (h2 : Bub c m b l1 l2) (h : ∀ i j, a ≤ i → i < m → m ≤ j → j < b → c (l.getD i 0) ≤ c (l.getD j 0)) : ∀ i j, a ≤ i → i < m → m ≤ j → j < b → c (l2.getD i 0) ≤ c (l2.getD j 0) := fun i j hi him hmj hj => by
  rw [h2.from.1 i (by omega)]
  obtain ⟨j', q1, q2, e2⟩ := h2.from.2 j hmj hj
  rw [e2, h1.from.1 j' (by omega)]
  obtain ⟨i', p1, p2, e1⟩ := h1.from.2 i hi him
  rw [e1]
  exact h i' j' p1 p2 q1 q2
/-- a list cut in four -/
theorem cut4 (l : List Int) {s m e : Nat} (h1 : s ≤ m) (h2 : m ≤ e) (h3 : e ≤ l.length) : ∃ P X Y Q, l = P ++ X ++ Y ++ Q ∧ P.length = s ∧ X.length = m - s ∧ Y.length = e - m := by
  refine ⟨l.take s, (l.drop s).take (m - s), (l.drop m).take (e - m), l.drop e, ?_, by simp; omega, by simp; omega, by simp; omega⟩
  have e1 : (l.drop s).take (m - s) ++ (l.drop m) = l.drop s := by
    have := List.take_append_drop (m - s) (l.drop s)
    rw [List.drop_drop, show s + (m - s) = m by omega] at this
    exact this
  have e2 : (l.drop m).take (e - m) ++ (l.drop e) = l.drop m := by
    have := List.take_append_drop (e - m) (l.drop m)
    rw [List.drop_drop, show m + (e - m) = e by omega] at this
    exact this
  rw [List.append_assoc, e2, List.append_assoc, e1, List.take_append_drop]
/-- which elements a rotated list has where -/
theorem getD_rot (P X Y Q : List Int) (i : Nat) : (P ++ Y ++ X ++ Q).getD i 0 = if i < P.length then (P ++ X ++ Y ++ Q).getD i 0 else if i < P.length + Y.length then (P ++ X ++ Y ++ Q).getD (i + X.length) 0 else if i < P.length + Y.length + X.length then (P ++ X ++ Y ++ Q).getD (i - Y.length) 0 else (P ++ X ++ Y ++ Q).getD i 0 := by
  have A : ∀ (A B C D : List Int) (k : Nat), (A ++ B ++ C ++ D).getD k 0 = if k < A.length then A.getD k 0 else if k < A.length + B.length then B.getD (k - A.length) 0 else if k < A.length + B.length + C.length then C.getD (k - A.length - B.length) 0 else D.getD (k - A.length - B.length - C.length) 0 := by
    intro A B C D k
    simp only [List.getD, List.append_assoc]
    by_cases h1 : k < A.length
    · rw [if_pos h1, List.getElem?_append_left h1]
    · rw [if_neg h1, List.getElem?_append_right (by omega)]
      by_cases h2 : k < A.length + B.length
      · rw [if_pos h2, List.getElem?_append_left (by omega)]
      · rw [if_neg h2, List.getElem?_append_right (by omega)]
        by_cases h3 : k < A.length + B.length + C.length
        · rw [if_pos h3, List.getElem?_append_left (by omega)]
        · rw [if_neg h3, List.getElem?_append_right (by omega)]
  rw [A P Y X Q i, A P X Y Q i, A P X Y Q (i + X.length), A P X Y Q (i - Y.length)]
  by_cases h1 : i < P.length
  · simp [h1]
  · by_cases h2 : i < P.length + Y.length
    · simp only [h1, h2, if_true, if_false]
      rw [if_neg (by omega), if_neg (by omega), if_pos (by omega)]
      congr 1; omega
    · by_cases h3 : i < P.length + Y.length + X.length
      · simp only [h1, h2, h3, if_true, if_false]
        rw [if_neg (by omega), if_pos (by omega)]
        congr 1; omega
      · simp only [h1, h2, h3, if_false]
        rw [if_neg (by omega), if_neg (by omega)]
        congr 1; omega
theorem mem_block {P X Q : List Int} {x : Int} (h : x ∈ X) : ∃ i, P.length ≤ i ∧ i < P.length + X.length ∧ (P ++ X ++ Q).getD i 0 = x := by
  obtain ⟨k, hk, rfl⟩ := List.mem_iff_getElem.1 h
  refine ⟨P.length + k, by omega, by omega, ?_⟩
  simp [List.getD, List.append_assoc, List.getElem?_append_right, List.getElem?_append_left hk, List.getElem?_eq_getElem hk]
/-- the step of a merge: a list, cut where the first block is greater, is rotated: the halves are two rows in order each, the first half is not above the second -/
theorem merge_step {a m b mid s e : Nat} {l : List Int} (h1 : Srt c a m l) (h2 : Srt c m b l) (has : a ≤ s) (hsm : s ≤ m) (hme : m ≤ e) (heb : e ≤ b) (hbl : b ≤ l.length) (hse : s + e = mid + m)
    (hlo : s = a ∨ e = b ∨ c (l.getD (s - 1) 0) ≤ c (l.getD e 0)) (hhi : s = m ∨ e = m ∨ c (l.getD (e - 1) 0) < c (l.getD s 0)) :
    ∃ P X Y Q, l = P ++ X ++ Y ++ Q ∧ P.length = s ∧ X.length = m - s ∧ Y.length = e - m ∧ Bub c a b l (P ++ Y ++ X ++ Q) ∧ Srt c a s (P ++ Y ++ X ++ Q) ∧ Srt c s mid (P ++ Y ++ X ++ Q) ∧ Srt c mid e (P ++ Y ++ X ++ Q) ∧ Srt c e b (P ++ Y ++ X ++ Q) ∧ ∀ i j, a ≤ i → i < mid → mid ≤ j → j < b → c ((P ++ Y ++ X ++ Q).getD i 0) ≤ c ((P ++ Y ++ X ++ Q).getD j 0) := by
  obtain ⟨P, X, Y, Q, rfl, hP, hX, hY⟩ := cut4 l hsm hme (by omega)
  have g := getD_rot P X Y Q
  generalize hl : P ++ X ++ Y ++ Q = l at *
  have r1 : ∀ i, i < s → (P ++ Y ++ X ++ Q).getD i 0 = l.getD i 0 := fun i hi => by rw [g, if_pos (by omega)]
  have r2 : ∀ i, s ≤ i → i < mid → (P ++ Y ++ X ++ Q).getD i 0 = l.getD (i + (m - s)) 0 := fun i h h' => by rw [g, if_neg (by omega), if_pos (by omega), hX]
  have r3 : ∀ i, mid ≤ i → i < e → (P ++ Y ++ X ++ Q).getD i 0 = l.getD (i - (e - m)) 0 := fun i h h' => by rw [g, if_neg (by omega), if_neg (by omega), if_pos (by omega), hY]
  have r4 : ∀ i, e ≤ i → (P ++ Y ++ X ++ Q).getD i 0 = l.getD i 0 := fun i h => by rw [g, if_neg (by omega), if_neg (by omega), if_neg (by omega)]
  have hgt : ∀ i j, s ≤ i → i < m → m ≤ j → j < e → c (l.getD j 0) < c (l.getD i 0) := fun i j hi him hmj hj => by
    have q1 := h1.le (i := s) (j := i) has hi him
    have q2 := h2.le (i := j) (j := e - 1) hmj (by omega) (by omega)
    rcases hhi with h | h | h
    · omega
    · omega
    · omega
  have hle : ∀ i j, a ≤ i → i < s → e ≤ j → j < b → c (l.getD i 0) ≤ c (l.getD j 0) := fun i j hi his hej hj => by
    have q1 := h1.le (i := i) (j := s - 1) hi (by omega) (by omega)
    have q2 := h2.le (i := e) (j := j) hme hej hj
    rcases hlo with h | h | h
    · omega
    · omega
    · omega
  refine ⟨P, X, Y, Q, hl.symm, hP, hX, hY, ?_, ?_, ?_, ?_, ?_, ?_⟩
  · rw [← hl]
    refine Bub.rot a b P X Y Q (by omega) (by omega) (fun x hx y hy => ?_)
    obtain ⟨i, i1, i2, ei⟩ := mem_block (P := P) (Q := Y ++ Q) hx
    obtain ⟨j, j1, j2, ej⟩ := mem_block (P := P ++ X) (Q := Q) hy
    have e1 : l.getD i 0 = x := by rw [← ei, ← hl]; simp
    have e2 : l.getD j 0 = y := by rw [← ej, ← hl]
    simp only [List.length_append] at j1 j2
    rw [← e1, ← e2]
    exact hgt i j (by omega) (by omega) (by omega) (by omega)
  · intro i j h h' h''
    rw [r1 i (by omega), r1 j h'']
    exact h1 i j h h' (by omega)
  · intro i j h h' h''
    rw [r2 i h (by omega), r2 j (by omega) h'']
    exact h2 _ _ (by omega) (by omega) (by omega)
  · intro i j h h' h''
    rw [r3 i h (by omega), r3 j (by omega) h'']
    exact h1 _ _ (by omega) (by omega) (by omega)
  · intro i j h h' h''
    rw [r4 i h, r4 j (by omega)]
    exact h2 i j (by omega) h' h''
  · intro i j hi him hmj hj
    rcases Nat.lt_or_ge i s with gi | gi
    · rw [r1 i gi]
      rcases Nat.lt_or_ge j e with gj | gj
      · rw [r3 j hmj gj]
        exact h1.le hi (by omega) (by omega)
      · rw [r4 j gj]
        exact hle i j hi gi gj hj
    · rw [r2 i gi him]
      rcases Nat.lt_or_ge j e with gj | gj
      · rw [r3 j hmj gj]
        exact Int.le_of_lt (hgt _ _ (by omega) (by omega) (by omega) (by omega))
      · rw [r4 j gj]
        exact h2.le (by omega) (by omega) hj
end
end Go.Proofs.YtoceaielclomcaaRRGreatDoor

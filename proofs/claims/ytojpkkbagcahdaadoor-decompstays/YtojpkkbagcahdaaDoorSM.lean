/-
  What is proved here: plain mathematics of a stable sort (no program): neighbours of which the first is greater change places; blocks that are rotated; two rows in order that are put together. · what slices.swapRangeCmpFunc and slices.rotateCmpFunc do to a row of runes. · plain mathematics of a merge (no program): one element put into a row in order. · what slices.symMergeCmpFunc does to a row of runes. · what slices.symMergeCmpFunc does to a row of runes, whatever it is. · what slices.symMergeCmpFunc does to a row of runes, whatever it is. · what slices.symMergeCmpFunc does to a row of runes, whatever it is. · what slices.insertionSortCmpFunc does to a row of runes; runes in runs of one length, each in order. · what slices.stableCmpFunc and slices.SortStableFunc do to a row of runes.
-/
import Derived.Test.YtojpkkbagcahdaaDoorO0
import Derived.Test.YtojpkkbagcahdaaDoorBase
import Derived.Shelf.SlSortCmp.Insertion1
import Derived.Deep.CutRange
namespace Go.Proofs.YtojpkkbagcahdaaDoor

section
variable (c : Int → Int)
/-- neighbours from a on and ahead of b of which the first is greater have changed places, some times -/
inductive Bub (a b : Nat) : List Int → List Int → Prop
  | refl (l : List Int) : Bub a b l l
  | step (P Q : List Int) (x y : Int) (l' : List Int) (ha : a ≤ P.length) (hb : P.length + 2 ≤ b) (hc : c y < c x) (h : Bub a b (P ++ y :: x :: Q) l') : Bub a b (P ++ x :: y :: Q) l'
variable {c}
theorem Bub.trans {a b : Nat} {l l' l'' : List Int} (h : Bub c a b l l') (h' : Bub c a b l' l'') : Bub c a b l l'' := by
  induction h with
  | refl l => exact h'
  | step P Q x y l' ha hb hc _ ih => exact .step P Q x y _ ha hb hc (ih h')
theorem Bub.mono {a b a' b' : Nat} {l l' : List Int} (h : Bub c a b l l') (ha : a' ≤ a) (hb : b ≤ b') : Bub c a' b' l l' := by
  induction h with
  | refl l => exact .refl l
  | step P Q x y l' h1 h2 hc _ ih => exact .step P Q x y _ (by omega) (by omega) hc ih
theorem Bub.length {a b : Nat} {l l' : List Int} (h : Bub c a b l l') : l'.length = l.length := by
  induction h with
  | refl l => rfl
  | step P Q x y l' h1 h2 hc _ ih => rw [ih]; simp
theorem Bub.perm {a b : Nat} {l l' : List Int} (h : Bub c a b l l') : l'.Perm l := by
  induction h with
  | refl l => exact .refl l
  | step P Q x y l' h1 h2 hc _ ih => exact ih.trans (List.Perm.append_left P (List.Perm.swap x y Q))
theorem Bub.order {a b : Nat} {l l' : List Int} (h : Bub c a b l l') (hp : ∀ x ∈ l, 0 < c x) (A B : List Int) : orderM c (A ++ l ++ B) = orderM c (A ++ l' ++ B) := by
  induction h with
  | refl l => rfl
  | step P Q x y l' h1 h2 hc _ ih =>
    rw [← ih (fun z hz => hp z (by simp at hz ⊢; rcases hz with h | h | h | h <;> simp [h]))]
    have := orderM_swap c (A ++ P) (Q ++ B) x y (hp y (by simp)) hc
    simpa using this
theorem getD_swap (P Q : List Int) (x y : Int) (i : Nat) : (P ++ y :: x :: Q).getD i 0 = if i = P.length then y else if i = P.length + 1 then x else (P ++ x :: y :: Q).getD i 0 := by
  rcases Nat.lt_trichotomy i P.length with g | rfl | g
  · rw [if_neg (by omega), if_neg (by omega)]
    simp [List.getD, List.getElem?_append_left g]
  · simp [List.getD]
  · rw [if_neg (by omega)]
    obtain ⟨k, rfl⟩ : ∃ k, i = P.length + 1 + k := ⟨i - P.length - 1, by omega⟩
    cases k with
    | zero => simp [List.getD]
    | succ k =>
      rw [if_neg (by omega)]
      have e : P.length + 1 + (k + 1) = P.length + (k + 2) := by omega
      rw [e]
      simp [List.getD, List.getElem?_append_right]
theorem getD_at (P Q : List Int) (x y : Int) : (P ++ x :: y :: Q).getD P.length 0 = x ∧ (P ++ x :: y :: Q).getD (P.length + 1) 0 = y := by
  simp [List.getD]
/-- what stands from a on and ahead of b stood there before -/
theorem Bub.from {a b : Nat} {l l' : List Int} (h : Bub c a b l l') : (∀ i, i < a ∨ b ≤ i → l'.getD i 0 = l.getD i 0) ∧ ∀ i, a ≤ i → i < b → ∃ j, a ≤ j ∧ j < b ∧ l'.getD i 0 = l.getD j 0 := by
  induction h with
  | refl l => exact ⟨fun _ _ => rfl, fun i h1 h2 => ⟨i, h1, h2, rfl⟩⟩
  | step P Q x y l' h1 h2 hc _ ih =>
    have e := getD_swap P Q x y
    have e' := getD_at P Q x y
    refine ⟨fun i hi => ?_, fun i hi1 hi2 => ?_⟩
    · rw [ih.1 i hi, e, if_neg (by omega), if_neg (by omega)]
    · obtain ⟨j, j1, j2, ej⟩ := ih.2 i hi1 hi2
      rw [ej, e]
      by_cases g : j = P.length
      · exact ⟨P.length + 1, by omega, by omega, by rw [if_pos g, e'.2]⟩
      · by_cases g' : j = P.length + 1
        · exact ⟨P.length, by omega, by omega, by rw [if_neg g, if_pos g', e'.1]⟩
        · exact ⟨j, j1, j2, by rw [if_neg g, if_neg g']⟩
theorem Bub.move (a b : Nat) (P X Q : List Int) (y : Int) (ha : a ≤ P.length) (hb : P.length + X.length + 1 ≤ b) (h : ∀ x ∈ X, c y < c x) : Bub c a b (P ++ X ++ y :: Q) (P ++ y :: X ++ Q) := by
  induction X generalizing P with
  | nil => simpa using Bub.refl (c := c) _
  | cons x X ih =>
    have h1 := ih (P ++ [x]) (by simp; omega) (by simp at hb ⊢; omega) (fun z hz => h z (by simp [hz]))
    have h2 : Bub c a b (P ++ x :: y :: (X ++ Q)) (P ++ y :: x :: (X ++ Q)) := .step P (X ++ Q) x y _ ha (by simp at hb; omega) (h x (by simp)) (.refl _)
    simp only [List.append_assoc, List.cons_append, List.nil_append] at h1 h2 ⊢
    exact h1.trans h2
/-- blocks of which the first is greater, rotated -/
theorem Bub.rot (a b : Nat) (P X Y Q : List Int) (ha : a ≤ P.length) (hb : P.length + X.length + Y.length ≤ b) (h : ∀ x ∈ X, ∀ y ∈ Y, c y < c x) : Bub c a b (P ++ X ++ Y ++ Q) (P ++ Y ++ X ++ Q) := by
  induction Y generalizing P with
  | nil => simpa using Bub.refl (c := c) _
  | cons y Y ih =>
    have h1 := Bub.move (c := c) a b P X (Y ++ Q) y ha (by simp at hb; omega) (fun x hx => h x hx y (by simp))
    have h2 := ih (P ++ [y]) (by simp; omega) (by simp at hb ⊢; omega) (fun x hx z hz => h x hx z (by simp [hz]))
    simp only [List.append_assoc, List.cons_append, List.nil_append] at h1 h2 ⊢
    exact h1.trans h2
variable (c)
/-- in order from a on and ahead of b -/
def Srt (a b : Nat) (l : List Int) : Prop := ∀ i j, a ≤ i → i < j → j < b → c (l.getD i 0) ≤ c (l.getD j 0)
variable {c}
theorem Srt.le {a b : Nat} {l : List Int} (h : Srt c a b l) {i j : Nat} (h1 : a ≤ i) (h2 : i ≤ j) (h3 : j < b) : c (l.getD i 0) ≤ c (l.getD j 0) := by
  rcases Nat.eq_or_lt_of_le h2 with rfl | g
  · exact Int.le_refl _
  · exact h i j h1 g h3
theorem Srt.one (a : Nat) (l : List Int) : Srt c a (a + 1) l := fun i j h1 h2 h3 => by omega
/-- what is outside is as it was -/
theorem Srt.out {a b a' b' : Nat} {l l' : List Int} (h : Srt c a b l) (hb : Bub c a' b' l l') (hd : b ≤ a' ∨ b' ≤ a) : Srt c a b l' := fun i j h1 h2 h3 => by
  rw [hb.from.1 i (by omega), hb.from.1 j (by omega)]
  exact h i j h1 h2 h3
/-- two halves in order, the first of which is not above the second -/
theorem Srt.both {a m b : Nat} {l : List Int} (h1 : Srt c a m l) (h2 : Srt c m b l) (h : ∀ i j, a ≤ i → i < m → m ≤ j → j < b → c (l.getD i 0) ≤ c (l.getD j 0)) : Srt c a b l := fun i j hi hij hj => by
  rcases Nat.lt_or_ge j m with g | g
  · exact h1 i j hi hij g
  · rcases Nat.lt_or_ge i m with g' | g'
    · exact h i j hi g' g hj
    · exact h2 i j g' hij hj
theorem cross_keep {a m b : Nat} {l l1 l2 : List Int} (h1 : Bub c a m l l1) (h2 : Bub c m b l1 l2) (h : ∀ i j, a ≤ i → i < m → m ≤ j → j < b → c (l.getD i 0) ≤ c (l.getD j 0)) : ∀ i j, a ≤ i → i < m → m ≤ j → j < b → c (l2.getD i 0) ≤ c (l2.getD j 0) := fun i j hi him hmj hj => by
  rw [h2.from.1 i (by omega)]
  obtain ⟨j', q1, q2, e2⟩ := h2.from.2 j hmj hj
  rw [e2, h1.from.1 j' (by omega)]
  obtain ⟨i', p1, p2, e1⟩ := h1.from.2 i hi him
  rw [e1]
  exact h i' j' p1 p2 q1 q2
/-- a list cut in four -/
theorem cut4 (l : List Int) {s m e : Nat} (h1 : s ≤ m) (h2 : m ≤ e) (h3 : e ≤ l.length) : ∃ P X Y Q, l = P ++ X ++ Y ++ Q ∧ P.length = s ∧ X.length = m - s ∧ Y.length = e - m := by
  refine ⟨l.take s, (l.drop s).take (m - s), (l.drop m).take (e - m), l.drop e, ?_, by simp; omega, by simp; omega, by simp; omega⟩
  have e1 : (l.drop s).take (m - s) ++ (l.drop m) = l.drop s := by
    have := List.take_append_drop (m - s) (l.drop s)
    rw [List.drop_drop, show s + (m - s) = m by omega] at this
    exact this
  have e2 : (l.drop m).take (e - m) ++ (l.drop e) = l.drop m := by
    have := List.take_append_drop (e - m) (l.drop m)
    rw [List.drop_drop, show m + (e - m) = e by omega] at this
    exact this
  rw [List.append_assoc, e2, List.append_assoc, e1, List.take_append_drop]
/-- which elements a rotated list has where -/
theorem getD_rot (P X Y Q : List Int) (i : Nat) : (P ++ Y ++ X ++ Q).getD i 0 = if i < P.length then (P ++ X ++ Y ++ Q).getD i 0 else if i < P.length + Y.length then (P ++ X ++ Y ++ Q).getD (i + X.length) 0 else if i < P.length + Y.length + X.length then (P ++ X ++ Y ++ Q).getD (i - Y.length) 0 else (P ++ X ++ Y ++ Q).getD i 0 := by
  have A : ∀ (A B C D : List Int) (k : Nat), (A ++ B ++ C ++ D).getD k 0 = if k < A.length then A.getD k 0 else if k < A.length + B.length then B.getD (k - A.length) 0 else if k < A.length + B.length + C.length then C.getD (k - A.length - B.length) 0 else D.getD (k - A.length - B.length - C.length) 0 := by
    intro A B C D k
    simp only [List.getD, List.append_assoc]
    by_cases h1 : k < A.length
    · rw [if_pos h1, List.getElem?_append_left h1]
    · rw [if_neg h1, List.getElem?_append_right (by omega)]
      by_cases h2 : k < A.length + B.length
      · rw [if_pos h2, List.getElem?_append_left (by omega)]
      · rw [if_neg h2, List.getElem?_append_right (by omega)]
        by_cases h3 : k < A.length + B.length + C.length
        · rw [if_pos h3, List.getElem?_append_left (by omega)]
        · rw [if_neg h3, List.getElem?_append_right (by omega)]
  rw [A P Y X Q i, A P X Y Q i, A P X Y Q (i + X.length), A P X Y Q (i - Y.length)]
  by_cases h1 : i < P.length
  · simp [h1]
  · by_cases h2 : i < P.length + Y.length
    · simp only [h1, h2, if_true, if_false]
      rw [if_neg (by omega), if_neg (by omega), if_pos (by omega)]
      congr 1; omega
    · by_cases h3 : i < P.length + Y.length + X.length
      · simp only [h1, h2, h3, if_true, if_false]
        rw [if_neg (by omega), if_pos (by omega)]
        congr 1; omega
      · simp only [h1, h2, h3, if_false]
        rw [if_neg (by omega), if_neg (by omega)]
        congr 1; omega
theorem mem_block {P X Q : List Int} {x : Int} (h : x ∈ X) : ∃ i, P.length ≤ i ∧ i < P.length + X.length ∧ (P ++ X ++ Q).getD i 0 = x := by
  obtain ⟨k, hk, rfl⟩ := List.mem_iff_getElem.1 h
  refine ⟨P.length + k, by omega, by omega, ?_⟩
  simp [List.getD, List.append_assoc, List.getElem?_append_right, List.getElem?_append_left hk, List.getElem?_eq_getElem hk]
/-- the step of a merge: a list, cut where the first block is greater, is rotated: the halves are two rows in order each, the first half is not above the second -/
theorem merge_step {a m b mid s e : Nat} {l : List Int} (h1 : Srt c a m l) (h2 : Srt c m b l) (has : a ≤ s) (hsm : s ≤ m) (hme : m ≤ e) (heb : e ≤ b) (hbl : b ≤ l.length) (hse : s + e = mid + m)
    (hlo : s = a ∨ e = b ∨ c (l.getD (s - 1) 0) ≤ c (l.getD e 0)) (hhi : s = m ∨ e = m ∨ c (l.getD (e - 1) 0) < c (l.getD s 0)) :
    ∃ P X Y Q, l = P ++ X ++ Y ++ Q ∧ P.length = s ∧ X.length = m - s ∧ Y.length = e - m ∧ Bub c a b l (P ++ Y ++ X ++ Q) ∧ Srt c a s (P ++ Y ++ X ++ Q) ∧ Srt c s mid (P ++ Y ++ X ++ Q) ∧ Srt c mid e (P ++ Y ++ X ++ Q) ∧ Srt c e b (P ++ Y ++ X ++ Q) ∧ ∀ i j, a ≤ i → i < mid → mid ≤ j → j < b → c ((P ++ Y ++ X ++ Q).getD i 0) ≤ c ((P ++ Y ++ X ++ Q).getD j 0) := by
  obtain ⟨P, X, Y, Q, rfl, hP, hX, hY⟩ := cut4 l hsm hme (by omega)
  have g := getD_rot P X Y Q
  generalize hl : P ++ X ++ Y ++ Q = l at *
  have r1 : ∀ i, i < s → (P ++ Y ++ X ++ Q).getD i 0 = l.getD i 0 := fun i hi => by rw [g, if_pos (by omega)]
  have r2 : ∀ i, s ≤ i → i < mid → (P ++ Y ++ X ++ Q).getD i 0 = l.getD (i + (m - s)) 0 := fun i h h' => by rw [g, if_neg (by omega), if_pos (by omega), hX]
  have r3 : ∀ i, mid ≤ i → i < e → (P ++ Y ++ X ++ Q).getD i 0 = l.getD (i - (e - m)) 0 := fun i h h' => by rw [g, if_neg (by omega), if_neg (by omega), if_pos (by omega), hY]
  have r4 : ∀ i, e ≤ i → (P ++ Y ++ X ++ Q).getD i 0 = l.getD i 0 := fun i h => by rw [g, if_neg (by omega), if_neg (by omega), if_neg (by omega)]
  have hgt : ∀ i j, s ≤ i → i < m → m ≤ j → j < e → c (l.getD j 0) < c (l.getD i 0) := fun i j hi him hmj hj => by
    have q1 := h1.le (i := s) (j := i) has hi him
    have q2 := h2.le (i := j) (j := e - 1) hmj (by omega) (by omega)
    rcases hhi with h | h | h
    · omega
    · omega
    · omega
  have hle : ∀ i j, a ≤ i → i < s → e ≤ j → j < b → c (l.getD i 0) ≤ c (l.getD j 0) := fun i j hi his hej hj => by
    have q1 := h1.le (i := i) (j := s - 1) hi (by omega) (by omega)
    have q2 := h2.le (i := e) (j := j) hme hej hj
    rcases hlo with h | h | h
    · omega
    · omega
    · omega
  refine ⟨P, X, Y, Q, hl.symm, hP, hX, hY, ?_, ?_, ?_, ?_, ?_, ?_⟩
  · rw [← hl]
    refine Bub.rot a b P X Y Q (by omega) (by omega) (fun x hx y hy => ?_)
    obtain ⟨i, i1, i2, ei⟩ := mem_block (P := P) (Q := Y ++ Q) hx
    obtain ⟨j, j1, j2, ej⟩ := mem_block (P := P ++ X) (Q := Q) hy
    have e1 : l.getD i 0 = x := by rw [← ei, ← hl]; simp
    have e2 : l.getD j 0 = y := by rw [← ej, ← hl]
    simp only [List.length_append] at j1 j2
    rw [← e1, ← e2]
    exact hgt i j (by omega) (by omega) (by omega) (by omega)
  · intro i j h h' h''
    rw [r1 i (by omega), r1 j h'']
    exact h1 i j h h' (by omega)
  · intro i j h h' h''
    rw [r2 i h (by omega), r2 j (by omega) h'']
    exact h2 _ _ (by omega) (by omega) (by omega)
  · intro i j h h' h''
    rw [r3 i h (by omega), r3 j (by omega) h'']
    exact h1 _ _ (by omega) (by omega) (by omega)
  · intro i j h h' h''
    rw [r4 i h, r4 j (by omega)]
    exact h2 i j (by omega) h' h''
  · intro i j hi him hmj hj
    rcases Nat.lt_or_ge i s with gi | gi
    · rw [r1 i gi]
      rcases Nat.lt_or_ge j e with gj | gj
      · rw [r3 j hmj gj]
        exact h1.le hi (by omega) (by omega)
      · rw [r4 j gj]
        exact hle i j hi gi gj hj
    · rw [r2 i gi him]
      rcases Nat.lt_or_ge j e with gj | gj
      · rw [r3 j hmj gj]
        exact Int.le_of_lt (hgt _ _ (by omega) (by omega) (by omega) (by omega))
      · rw [r4 j gj]
        exact h2.le (by omega) (by omega) hj
end
end Go.Proofs.YtojpkkbagcahdaaDoor
namespace Go.Proofs.YtojpkkbagcahdaaDoor
open Go.RowKit Go.Sort

theorem rune_one : OneCell (Value.int .i32) := by first | exact ⟨fun _ => rfl⟩ | exact fun _ => rfl | exact oneCell_int
/-- the world in which the row at a place of a block holds these runes -/
def SL (w0 : World) (blk off : Nat) (L : List Int) (W : World) : Prop := SW (Value.int .i32) w0 blk off L.toArray W
/-- what is known of the row at the start -/
def RL (w0 : World) (blk off : Nat) (L : List Int) : Prop := Row1 (Value.int .i32) w0 blk off L.toArray
theorem arr_get (L : List Int) (i : Nat) : L.toArray[i]! = L.getD i 0 := by
  simp [List.getD]
def swapL (L : List Int) (i j : Nat) : List Int := (L.set i (L.getD j 0)).set j (L.getD i 0)
theorem swp_toArray (L : List Int) (i j : Nat) : swp L.toArray i j = (swapL L i j).toArray := by
  unfold swp swapL
  rw [arr_get, arr_get]
  simp
theorem swapL_length (L : List Int) (i j : Nat) : (swapL L i j).length = L.length := by simp [swapL]
theorem SL.cell {w0 W : World} {blk off : Nat} {L L0 : List Int} (h : SL w0 blk off L W) (R : RL w0 blk off L0) (hs : L.length = L0.length) (i : Nat) (hi : i < L.length) : W.cell? ⟨blk, off + i, none⟩ = some (.int .i32 (L.getD i 0)) := by
  have := SW.c1 h R (by simpa using hs) i (by simpa using hi)
  rwa [arr_get] at this
theorem SL.frz {w0 W : World} {blk off : Nat} {L L0 : List Int} (h : SL w0 blk off L W) (R : RL w0 blk off L0) (hs : L.length = L0.length) (i : Nat) (hi : i < L.length) : W.frozen? ⟨blk, off + i, none⟩ = false :=
  SW.f1 h R (by simpa using hs) i (by simpa using hi)
theorem SL.two {w0 W : World} {blk off : Nat} {L L0 : List Int} (h : SL w0 blk off L W) (R : RL w0 blk off L0) (hs : L.length = L0.length) (i j : Nat) (hi : i < L.length) (hj : j < L.length) (v : Value) : ∃ u, (W.setCell ⟨blk, off + i, none⟩ v).cell? ⟨blk, off + j, none⟩ = some u :=
  SW.c2 h R (by simpa using hs) i j (by simpa using hi) (by simpa using hj) v
theorem SL.swap {w0 W : World} {blk off : Nat} {L L0 : List Int} (h : SL w0 blk off L W) (R : RL w0 blk off L0) (i j : Nat) (hi : i < L.length) (hj : j < L.length) : SL w0 blk off (swapL L i j) ((W.setCell ⟨blk, off + i, none⟩ (.int .i32 (L.getD j 0))).setCell ⟨blk, off + j, none⟩ (.int .i32 (L.getD i 0))).drew := by
  have := SW.swapped h R i j (by simpa using hi) (by simpa using hj)
  rw [arr_get, arr_get, swp_toArray] at this
  exact this
theorem swapL_two (P Q R : List Int) (x y : Int) : swapL (P ++ x :: (Q ++ y :: R)) P.length (P.length + 1 + Q.length) = P ++ y :: (Q ++ x :: R) := by
  have e1 : (P ++ x :: (Q ++ y :: R)).getD (P.length + 1 + Q.length) 0 = y := by
    have : P.length + 1 + Q.length = P.length + (Q.length + 1) := by omega
    rw [this]; simp [List.getD]
  have e2 : (P ++ x :: (Q ++ y :: R)).getD P.length 0 = x := by simp [List.getD]
  unfold swapL
  rw [e1, e2]
  have s1 : (P ++ x :: (Q ++ y :: R)).set P.length y = P ++ y :: (Q ++ y :: R) := by rw [List.set_append_right _ _ (Nat.le_refl _)]; simp
  rw [s1, List.set_append_right _ _ (by omega)]
  have : P.length + 1 + Q.length - P.length = Q.length + 1 := by omega
  rw [this, List.set_cons_succ, List.set_append_right _ _ (Nat.le_refl _)]
  simp
theorem getD_two (P Q R : List Int) (x y : Int) : (P ++ x :: (Q ++ y :: R)).getD P.length 0 = x ∧ (P ++ x :: (Q ++ y :: R)).getD (P.length + 1 + Q.length) 0 = y := by
  refine ⟨by simp [List.getD], ?_⟩
  have : P.length + 1 + Q.length = P.length + (Q.length + 1) := by omega
  rw [this]; simp [List.getD]
set_option maxRecDepth 20000 in
set_option maxHeartbeats 4000000 in
theorem swapRange_any (fv : Fn) (fb : Array Value) (w0 : World) (blk off cap : Nat) (L0 : List Int) (R : RL w0 blk off L0) (A U B V C : List Int) (hUV : U.length = V.length) (hl : (A ++ U ++ B ++ V ++ C).length = L0.length) (hs : L0.length ≤ 2147483648) (w : World) (S : SL w0 blk off (A ++ U ++ B ++ V ++ C) w) :
    Calls Tryd.prog 111 #[.slice (some ⟨blk, off, none⟩) L0.length cap, .int .i64 A.length, .int .i64 (A.length + U.length + B.length : Nat), .int .i64 U.length, .func fv #[] fb] w fun e w' => e = .returned (.tuple #[]) ∧ SL w0 blk off (A ++ V ++ B ++ U ++ C) w' := by
  have HR := Hid.mk' R
  have S0 := Hid.mk' S
  have hlen : A.length + U.length + B.length + V.length + C.length = L0.length := by rw [← hl]; simp only [List.length_append]
  obtain ⟨a, ha⟩ : ∃ a, A.length = a := ⟨_, rfl⟩
  obtain ⟨n, hn⟩ : ∃ n, U.length = n := ⟨_, rfl⟩
  obtain ⟨b, hb⟩ : ∃ b, A.length + U.length + B.length = b := ⟨_, rfl⟩
  obtain ⟨sz, hsz⟩ : ∃ sz, L0.length = sz := ⟨_, rfl⟩
  have HL : Hid (A.length = a ∧ U.length = n ∧ V.length = n ∧ a + n + B.length = b ∧ b + n + C.length = sz ∧ L0.length = sz) := ⟨ha, hn, by omega, by omega, by omega, hsz⟩
  rw [hb, ha, hn, hsz]
  rw [hsz] at hs
  have hab : a + n ≤ b := by omega
  have hbn : b + n ≤ sz := by omega
  clear R S hl hlen ha hn hb hsz hUV
  go_enter Tryd.func111, Tryd.ntmps111
  go_wp2
  go_loopw [10] (fun x wr => ∃ k : Nat, x = .int .i64 k ∧ k ≤ n ∧ Hid (∃ U1 U2 V1 V2, U = U1 ++ U2 ∧ V = V1 ++ V2 ∧ U1.length = k ∧ V1.length = k ∧ SL w0 blk off (A ++ V1 ++ U2 ++ B ++ U1 ++ V2 ++ C) wr)) (fun y _ => n - (intOf y).toNat)
  case atStart => exact ⟨0, rfl, Nat.zero_le _, ⟨[], U, [], V, rfl, rfl, rfl, rfl, by simpa using S0.out⟩⟩
  case round =>
    obtain ⟨k, rfl, hk, hI⟩ := hrel
    clear S0
    by_cases hlt : k < n
    · obtain ⟨i, hi⟩ : ∃ i, i = a + k := ⟨_, rfl⟩
      obtain ⟨j, hj⟩ : ∃ j, j = b + k := ⟨_, rfl⟩
      obtain ⟨x, y, u, ca, cb, cc, fa, fc, HN⟩ : ∃ (x y : Int) (u : Value), wr.cell? ⟨blk, off + i, none⟩ = some (.int .i32 x) ∧ wr.cell? ⟨blk, off + j, none⟩ = some (.int .i32 y) ∧ (wr.setCell ⟨blk, off + i, none⟩ (.int .i32 y)).cell? ⟨blk, off + j, none⟩ = some u ∧ wr.frozen? ⟨blk, off + i, none⟩ = false ∧ wr.frozen? ⟨blk, off + j, none⟩ = false ∧ Hid (∃ U1 U2 V1 V2, U = U1 ++ U2 ∧ V = V1 ++ V2 ∧ U1.length = k + 1 ∧ V1.length = k + 1 ∧ SL w0 blk off (A ++ V1 ++ U2 ++ B ++ U1 ++ V2 ++ C) ((wr.setCell ⟨blk, off + i, none⟩ (.int .i32 y)).setCell ⟨blk, off + j, none⟩ (.int .i32 x)).drew) := by
        obtain ⟨U1, U2, V1, V2, rfl, rfl, h1, h2, hS⟩ := hI.out
        obtain ⟨q1, q2, q3, q4, q5, q6⟩ := HL.out
        simp only [List.length_append] at q2 q3
        obtain ⟨u, U2, rfl⟩ : ∃ u U, U2 = u :: U := by
          cases U2 with
          | nil => simp at q2; omega
          | cons u U => exact ⟨u, U, rfl⟩
        obtain ⟨v, V2, rfl⟩ : ∃ u U, V2 = u :: U := by
          cases V2 with
          | nil => simp at q3; omega
          | cons u U => exact ⟨u, U, rfl⟩
        simp only [List.length_cons] at q2 q3
        have e0 : A ++ V1 ++ u :: U2 ++ B ++ U1 ++ v :: V2 ++ C = (A ++ V1) ++ u :: ((U2 ++ B ++ U1) ++ v :: (V2 ++ C)) := by simp
        rw [e0] at hS
        have ei : i = (A ++ V1).length := by simp; omega
        have ej : j = (A ++ V1).length + 1 + (U2 ++ B ++ U1).length := by simp; omega
        obtain ⟨g1, g2⟩ := getD_two (A ++ V1) (U2 ++ B ++ U1) (V2 ++ C) u v
        have g3 := swapL_two (A ++ V1) (U2 ++ B ++ U1) (V2 ++ C) u v
        rw [← ej] at g2 g3
        rw [← ei] at g1 g3
        have hL : (A ++ V1 ++ u :: ((U2 ++ B ++ U1) ++ v :: (V2 ++ C))).length = L0.length := by simp; omega
        have hi' : i < (A ++ V1 ++ u :: ((U2 ++ B ++ U1) ++ v :: (V2 ++ C))).length := by rw [hL]; omega
        have hj' : j < (A ++ V1 ++ u :: ((U2 ++ B ++ U1) ++ v :: (V2 ++ C))).length := by rw [hL]; omega
        obtain ⟨z, hz⟩ := hS.two HR.out hL i j hi' hj' (.int .i32 v)
        have c1 := hS.cell HR.out hL i hi'
        have c2 := hS.cell HR.out hL j hj'
        have c3 := hS.swap HR.out i j hi' hj'
        rw [g1] at c1 c3
        rw [g2] at c2 c3
        rw [g3] at c3
        refine ⟨u, v, z, c1, c2, hz, hS.frz HR.out hL i hi', hS.frz HR.out hL j hj', U1 ++ [u], U2, V1 ++ [v], V2, by simp, by simp, by simp; omega, by simp; omega, ?_⟩
        simpa using c3
      have ei : ((a : Int) + (k : Int)).toNat = i := by omega
      have pi : (0 : Int) ≤ (a : Int) + (k : Int) := by omega
      have bi : (a : Int) + (k : Int) < (sz : Int) := by omega
      have ri : IntKind.i64.wrap ((a : Int) + (k : Int)) = (a : Int) + (k : Int) := by rw [IntKind.wrap_i64]; omega
      have ej : ((b : Int) + (k : Int)).toNat = j := by omega
      have pj : (0 : Int) ≤ (b : Int) + (k : Int) := by omega
      have bj : (b : Int) + (k : Int) < (sz : Int) := by omega
      have rj : IntKind.i64.wrap ((b : Int) + (k : Int)) = (b : Int) + (k : Int) := by rw [IntKind.wrap_i64]; omega
      clear hI hi hj
      go_wp2
      go_region
      generalize ((wr.setCell ⟨blk, off + i, none⟩ (.int .i32 y)).setCell ⟨blk, off + j, none⟩ (.int .i32 x)).drew = w3 at HN ⊢
      clear ca cb cc fa fc ei pi bi ri ej pj bj rj
      go_wp2
      go_roundw
      case rel => exact ⟨k + 1, by go_num, by omega, HN⟩
      case measure => simp [intOf]; omega
    · obtain rfl : k = n := by omega
      go_wp2
      go_end0
      refine ⟨rfl, ?_⟩
      obtain ⟨U1, U2, V1, V2, rfl, rfl, h1, h2, hS⟩ := hI.out
      obtain ⟨q1, q2, q3, q4, q5, q6⟩ := HL.out
      simp only [List.length_append] at q2 q3
      obtain rfl : U2 = [] := List.length_eq_zero_iff.1 (by omega)
      obtain rfl : V2 = [] := List.length_eq_zero_iff.1 (by omega)
      simpa using hS
set_option maxRecDepth 20000 in
set_option maxHeartbeats 4000000 in
theorem rotate_any (fv : Fn) (fb : Array Value) (w0 : World) (blk off cap : Nat) (L0 : List Int) (R : RL w0 blk off L0) (P X Y Q : List Int) (hX : 0 < X.length) (hY : 0 < Y.length) (hl : (P ++ X ++ Y ++ Q).length = L0.length) (hs : L0.length ≤ 2147483648) (w : World) (S : SL w0 blk off (P ++ X ++ Y ++ Q) w) :
    Calls Tryd.prog 108 #[.slice (some ⟨blk, off, none⟩) L0.length cap, .int .i64 P.length, .int .i64 (P.length + X.length : Nat), .int .i64 (P.length + X.length + Y.length : Nat), .func fv #[] fb] w fun e w' => e = .returned (.tuple #[]) ∧ SL w0 blk off (P ++ Y ++ X ++ Q) w' := by
  have S0 := Hid.mk' S
  have HSR : Hid (∀ (A U B V C : List Int) (a b n : Nat), A.length = a → A.length + U.length + B.length = b → U.length = n → V.length = n → (A ++ U ++ B ++ V ++ C).length = L0.length → ∀ W, SL w0 blk off (A ++ U ++ B ++ V ++ C) W → Calls Tryd.prog 111 #[.slice (some ⟨blk, off, none⟩) L0.length cap, .int .i64 a, .int .i64 b, .int .i64 n, .func fv #[] fb] W fun e w' => e = .returned (.tuple #[]) ∧ SL w0 blk off (A ++ V ++ B ++ U ++ C) w') := fun A U B V C a b n ha hb hn hn' hL W hW => by
    subst ha hb hn
    exact swapRange_any fv fb w0 blk off cap L0 R A U B V C hn'.symm hL hs W hW
  have hlen : P.length + X.length + Y.length + Q.length = L0.length := by rw [← hl]; simp only [List.length_append]
  obtain ⟨a, ha⟩ : ∃ a, P.length = a := ⟨_, rfl⟩
  obtain ⟨i0, hi0⟩ : ∃ n, X.length = n := ⟨_, rfl⟩
  obtain ⟨j0, hj0⟩ : ∃ n, Y.length = n := ⟨_, rfl⟩
  obtain ⟨m, hm⟩ : ∃ m, P.length + X.length = m := ⟨_, rfl⟩
  obtain ⟨b, hb⟩ : ∃ b, m + Y.length = b := ⟨_, rfl⟩
  obtain ⟨sz, hsz⟩ : ∃ sz, L0.length = sz := ⟨_, rfl⟩
  have HF : Hid (P.length = a ∧ X.length = i0 ∧ Y.length = j0 ∧ b + Q.length = sz ∧ L0.length = sz) := ⟨ha, hi0, hj0, by omega, hsz⟩
  rw [hm, hb, ha, hsz]
  rw [hsz] at hs HSR
  have e1 : (m : Int) - (a : Int) = (i0 : Nat) := by omega
  have e2 : (b : Int) - (m : Int) = (j0 : Nat) := by omega
  have hbs : b ≤ sz := by omega
  have hi1 : 0 < i0 := by omega
  have hj1 : 0 < j0 := by omega
  have him : a + i0 = m := by omega
  have hmj : m + j0 = b := by omega
  generalize hT : P ++ Y ++ X ++ Q = T
  have HT := Hid.mk' hT
  clear R S hl hlen ha hi0 hj0 hm hb hsz hX hY hT
  go_enter Tryd.func108, Tryd.ntmps108
  go_wp2
  go_loopw [10, 11] (fun x y wr => ∃ i j : Nat, x = .int .i64 i ∧ y = .int .i64 j ∧ 0 < i ∧ 0 < j ∧ i ≤ m ∧ m + j ≤ b ∧ Hid (∃ P X Y Q : List Int, P.length = m - i ∧ X.length = i ∧ Y.length = j ∧ (P ++ X ++ Y ++ Q).length = sz ∧ T = P ++ Y ++ X ++ Q ∧ SL w0 blk off (P ++ X ++ Y ++ Q) wr)) (fun x y _ => (intOf x).toNat + (intOf y).toNat)
  case atStart => exact ⟨i0, j0, rfl, rfl, hi1, hj1, by omega, by omega, P, X, Y, Q, by have := HF.out; omega, HF.out.2.1, HF.out.2.2.1, by have := HF.out; simp; omega, HT.out.symm, S0.out⟩
  case round =>
    obtain ⟨i, j, rfl, rfl, hi, hj, hin, hjb, hI⟩ := hrel
    clear S0 e1 e2
    obtain ⟨p, hp⟩ : ∃ p : Nat, (m : Int) - (i : Int) = p := ⟨m - i, by omega⟩
    rcases (by omega : i = j ∨ j < i ∨ i < j) with rfl | hlt | hlt
    · have HC : Hid (Calls Tryd.prog 111 #[.slice (some ⟨blk, off, none⟩) sz cap, .int .i64 p, .int .i64 m, .int .i64 i, .func fv #[] fb] wr fun e w' => e = .returned (.tuple #[]) ∧ SL w0 blk off T w') := by
        obtain ⟨P, X, Y, Q, h1, h2, h3, h4, rfl, hS⟩ := hI.out
        have := HSR.out P X [] Y Q p m i (by omega) (by simp; omega) h2 h3 (by simpa using h4) wr (by simpa using hS)
        refine Hid.mk' ?_
        simpa using this
      clear hI HSR
      go_wp2_with fail
      refine HC.out.mono ?_
      rintro e w2 ⟨rfl, hS2⟩
      go_wp2
      go_end0
      exact ⟨rfl, hS2⟩
    · have HC : Hid (Calls Tryd.prog 111 #[.slice (some ⟨blk, off, none⟩) sz cap, .int .i64 p, .int .i64 m, .int .i64 j, .func fv #[] fb] wr fun e w' => e = .returned (.tuple #[]) ∧ ∃ P X Y Q : List Int, P.length = m - (i - j) ∧ X.length = i - j ∧ Y.length = j ∧ (P ++ X ++ Y ++ Q).length = sz ∧ T = P ++ Y ++ X ++ Q ∧ SL w0 blk off (P ++ X ++ Y ++ Q) w') := by
        obtain ⟨P, X, Y, Q, h1, h2, h3, h4, rfl, hS⟩ := hI.out
        obtain ⟨X1, X2, rfl, k1⟩ : ∃ X1 X2, X = X1 ++ X2 ∧ X1.length = j := ⟨X.take j, X.drop j, (List.take_append_drop _ _).symm, by simp; omega⟩
        simp only [List.length_append] at h2
        refine (HSR.out P X1 X2 Y Q p m j (by omega) (by omega) k1 h3 (by simp at h4 ⊢; omega) wr (by simpa using hS)).mono ?_
        rintro e w' ⟨he, hS'⟩
        exact ⟨he, P ++ Y, X2, X1, Q, by simp; omega, by omega, k1, by simp at h4 ⊢; omega, by simp, by simpa using hS'⟩
      obtain ⟨i', hi'⟩ : ∃ i' : Nat, (i : Int) - (j : Int) = i' := ⟨i - j, by omega⟩
      have hne : ((i : Int) != (j : Int)) = true := by simp; omega
      have hd : decide ((j : Int) < (i : Int)) = true := by simp; omega
      clear hI HSR
      go_wp2_with fail
      refine HC.out.mono ?_
      rintro e w2 ⟨rfl, hS2⟩
      have HN := Hid.mk' hS2
      rw [show i - j = i' by omega] at HN
      clear hS2
      go_wp2
      go_roundw
      case rel => exact ⟨i', j, rfl, rfl, by omega, hj, by omega, hjb, HN⟩
      case measure => simp [intOf]; omega
    · have HC : Hid (Calls Tryd.prog 111 #[.slice (some ⟨blk, off, none⟩) sz cap, .int .i64 p, .int .i64 (m + j - i : Nat), .int .i64 i, .func fv #[] fb] wr fun e w' => e = .returned (.tuple #[]) ∧ ∃ P X Y Q : List Int, P.length = m - i ∧ X.length = i ∧ Y.length = j - i ∧ (P ++ X ++ Y ++ Q).length = sz ∧ T = P ++ Y ++ X ++ Q ∧ SL w0 blk off (P ++ X ++ Y ++ Q) w') := by
        obtain ⟨P, X, Y, Q, h1, h2, h3, h4, rfl, hS⟩ := hI.out
        obtain ⟨Y1, Y2, rfl, k1⟩ : ∃ Y1 Y2, Y = Y1 ++ Y2 ∧ Y1.length = j - i := ⟨Y.take (j - i), Y.drop (j - i), (List.take_append_drop _ _).symm, by simp; omega⟩
        simp only [List.length_append] at h3
        refine (HSR.out P X Y1 Y2 Q p (m + j - i) i (by omega) (by omega) h2 (by omega) (by simp at h4 ⊢; omega) wr (by simpa using hS)).mono ?_
        rintro e w' ⟨he, hS'⟩
        exact ⟨he, P, Y2, Y1, X ++ Q, by omega, by omega, by omega, by simp at h4 ⊢; omega, by simp, by simpa using hS'⟩
      obtain ⟨q, hq⟩ : ∃ q : Nat, m + j - i = q := ⟨_, rfl⟩
      rw [hq] at HC
      obtain ⟨mj, hmj'⟩ : ∃ mj : Nat, (m : Int) + (j : Int) = mj := ⟨m + j, by omega⟩
      have hq' : (mj : Int) - (i : Int) = (q : Nat) := by omega
      obtain ⟨j', hj'⟩ : ∃ j' : Nat, (j : Int) - (i : Int) = j' := ⟨j - i, by omega⟩
      have hne : ((i : Int) != (j : Int)) = true := by simp; omega
      have hd : decide ((j : Int) < (i : Int)) = false := by simp; omega
      have hmjw : mj ≤ 2147483648 := by omega
      clear hI HSR hq
      go_wp2_with fail
      refine HC.out.mono ?_
      rintro e w2 ⟨rfl, hS2⟩
      have HN := Hid.mk' hS2
      rw [show j - i = j' by omega] at HN
      clear hS2
      go_wp2
      go_roundw
      case rel => exact ⟨i, j', rfl, rfl, hi, by omega, hin, by omega, HN⟩
      case measure => simp [intOf]; omega
end Go.Proofs.YtojpkkbagcahdaaDoor
namespace Go.Proofs.YtojpkkbagcahdaaDoor
open Go.RowKit Go.Sort

section
variable {c : Int → Int}
theorem ins_left {a b i : Nat} {L : List Int} (h2 : Srt c (a + 1) b L) (hi1 : a + 1 ≤ i) (hib : i ≤ b) (hbl : b ≤ L.length) (hlt : ∀ k, a + 1 ≤ k → k < i → c (L.getD k 0) < c (L.getD a 0)) (hge : i = b ∨ c (L.getD a 0) ≤ c (L.getD i 0)) :
    ∃ P x Y Z, L = P ++ [x] ++ Y ++ Z ∧ P.length = a ∧ Y.length = i - (a + 1) ∧ Bub c a b L (P ++ Y ++ [x] ++ Z) ∧ Srt c a b (P ++ Y ++ [x] ++ Z) := by
  obtain ⟨P, X, Y, Z, e, hP, hX, hY, hB, -, h3, h4, h5, hC⟩ := merge_step (c := c) (a := a) (m := a + 1) (b := b) (mid := i - 1) (s := a) (e := i) (Srt.one a L) h2 (Nat.le_refl _) (Nat.le_succ _) hi1 hib hbl (by omega) (.inl rfl) (by
    rcases (by omega : i = a + 1 ∨ a + 1 < i) with h | h
    · exact .inr (.inl h)
    · exact .inr (.inr (hlt (i - 1) (by omega) (by omega))))
  obtain ⟨x, rfl⟩ : ∃ x, X = [x] := List.length_eq_one_iff.1 (by omega)
  refine ⟨P, x, Y, Z, e, hP, hY, hB, Srt.both h3 (Srt.both h4 h5 ?_) hC⟩
  intro p q hp hp' hq hq'
  obtain rfl : p = i - 1 := by omega
  have g := getD_rot P [x] Y Z
  rw [← e] at g
  have g1 : (P ++ Y ++ [x] ++ Z).getD (i - 1) 0 = L.getD a 0 := by rw [g, if_neg (by simp; omega), if_neg (by simp; omega), if_pos (by simp; omega)]; congr 1; omega
  have g2 : (P ++ Y ++ [x] ++ Z).getD q 0 = L.getD q 0 := by rw [g, if_neg (by simp; omega), if_neg (by simp; omega), if_neg (by simp; omega)]
  rw [g1, g2]
  rcases hge with h | h
  · omega
  · exact Int.le_trans h (h2.le (by omega) hq hq')
theorem ins_right {a m i : Nat} {L : List Int} (h1 : Srt c a m L) (hia : a ≤ i) (him : i ≤ m) (hml : m + 1 ≤ L.length) (hgt : i = m ∨ c (L.getD m 0) < c (L.getD i 0)) (hle : i = a ∨ c (L.getD (i - 1) 0) ≤ c (L.getD m 0)) :
    ∃ P X y Z, L = P ++ X ++ [y] ++ Z ∧ P.length = i ∧ X.length = m - i ∧ Bub c a (m + 1) L (P ++ [y] ++ X ++ Z) ∧ Srt c a (m + 1) (P ++ [y] ++ X ++ Z) := by
  obtain ⟨P, X, Y, Z, e, hP, hX, hY, hB, h2, h3, h4, h5, hC⟩ := merge_step (c := c) (a := a) (m := m) (b := m + 1) (mid := i + 1) (s := i) (e := m + 1) h1 (Srt.one m L) hia him (Nat.le_succ _) (Nat.le_refl _) hml (by omega) (.inr (.inl rfl)) (by
    rcases hgt with h | h
    · exact .inl h
    · exact .inr (.inr (by simpa using h)))
  obtain ⟨y, rfl⟩ : ∃ y, Y = [y] := List.length_eq_one_iff.1 (by omega)
  refine ⟨P, X, y, Z, e, hP, hX, hB, Srt.both (Srt.both h2 h3 ?_) h4 hC⟩
  intro p q hp hp' hq hq'
  obtain rfl : q = i := by omega
  have g := getD_rot P X [y] Z
  rw [← e] at g
  have g1 : (P ++ [y] ++ X ++ Z).getD q 0 = L.getD m 0 := by rw [g, if_neg (by omega), if_pos (by simp; omega)]; congr 1; omega
  have g2 : (P ++ [y] ++ X ++ Z).getD p 0 = L.getD p 0 := by rw [g, if_pos (by omega)]
  rw [g1, g2]
  rcases hle with h | h
  · omega
  · exact Int.le_trans (h1.le hp (by omega) (by omega)) h
end
theorem SL.grown {w0 W : World} {blk off : Nat} {L : List Int} (h : SL w0 blk off L W) (n : Nat) (os : Array Obj) : SL w0 blk off L (grow (W.drewN n) os) := SW.grown h n os
theorem SL.cl {w0 W : World} {blk off : Nat} {L L0 : List Int} (h : SL w0 blk off L W) (R : RL w0 blk off L0) (hs : L.length = L0.length) (i : Nat) (hi : i < L.length) (n : Nat) (os : Array Obj) : (grow (W.drewN n) os).cell? ⟨blk, off + i, none⟩ = some (.int .i32 (L.getD i 0)) := (h.grown n os).cell R hs i hi
/-- what is asked of the function that compares -/
def CmpL (g : Nat) (cb : Array Value) (cf : Int → Int → Int) (blk off size : Nat) (w0 : World) : Prop := CmpLays1 Tryd.prog g cb (Value.int .i32) cf blk off size w0
theorem SL.cmp {w0 W : World} {blk off : Nat} {L : List Int} {g : Nat} {cb : Array Value} {cf : Int → Int → Int} {size : Nat} (h : SL w0 blk off L W) (hC : CmpL g cb cf blk off size w0) (hs : L.length = size) (x y : Int) (n : Nat) (os : Array Obj) :
    Calls Tryd.prog g (#[.int .i32 x, .int .i32 y] ++ cb) (grow (W.drewN n) os) fun e w' => e = .returned (.int .i64 (cf x y)) ∧ ∃ q os', w' = grow ((grow (W.drewN n) os).drewN q) os' := SW.cmp h hC (by simpa using hs) x y n os
end Go.Proofs.YtojpkkbagcahdaaDoor
namespace Go.Proofs.YtojpkkbagcahdaaDoor
open Go.RowKit Go.Sort

set_option maxRecDepth 20000 in
set_option maxHeartbeats 8000000 in
theorem symLeft_any (c : Int → Int) (g : Nat) (cb : Array Value) (cf : Int → Int → Int) (hcf : ∀ x y, decide (cf x y < 0) = decide (c x < c y)) (eg : ∀ args w, (callFunc g args).run Tryd.prog w = .ok (.enter g args) w) (w0 : World) (blk off cap : Nat) (L0 : List Int) (R : RL w0 blk off L0) (hcm : CmpL g cb cf blk off L0.length w0) (hs : L0.length ≤ 1073741824)
    (a m b : Nat) (L : List Int) (w : World) (hm : m = a + 1) (hmb : m < b) (hbl : b ≤ L.length) (hl : L.length = L0.length) (h2 : Srt c (a + 1) b L) (S : SL w0 blk off L w) :
    Calls Tryd.prog 98 #[.slice (some ⟨blk, off, none⟩) L0.length cap, .int .i64 a, .int .i64 m, .int .i64 b, .func (.func g) #[] cb] w fun e w' => e = .returned (.tuple #[]) ∧ ∃ L', Bub c a b L L' ∧ Srt c a b L' ∧ SL w0 blk off L' w' := by
  have mixed : Tryd.prog.follows .mixedOrders = true := by kernel_rfl
  have HR := Hid.mk' R
  have HC := Hid.mk' hcm
  have HCF := Hid.mk' hcf
  have HST := Hid.mk' h2
  have HLL := Hid.mk' hl
  have S0 := Hid.mk' S
  obtain ⟨sz, hsz⟩ : ∃ sz, L0.length = sz := ⟨_, rfl⟩
  have hbs : b ≤ sz := by omega
  rw [hsz] at hs ⊢
  have HSZ := Hid.mk' hsz
  have hda : (m : Int) - (a : Int) = 1 := by omega
  have ham : a < m := by omega
  have HM := Hid.mk' hm
  rw [← hm] at HST
  have hal : (a : Int) < (sz : Int) := by omega
  clear R hcm hcf h2 hl S hsz hbl hm
  go_enter Tryd.func98, Tryd.ntmps98
  go_wp2
  go_loopw [10, 11] (fun x y wr => ∃ i j : Nat, x = .int .i64 i ∧ y = .int .i64 j ∧ m ≤ i ∧ i ≤ j ∧ j ≤ b ∧ Hid (∀ k, m ≤ k → k < i → c (L.getD k 0) < c (L.getD a 0)) ∧ Hid (j = b ∨ c (L.getD a 0) ≤ c (L.getD j 0)) ∧ Hid (SL w0 blk off L wr)) (fun x y _ => (intOf y).toNat - (intOf x).toNat)
  case atStart => exact ⟨m, b, rfl, rfl, Nat.le_refl _, by omega, Nat.le_refl _, fun k h1 h2 => by omega, .inl rfl, S0⟩
  case round =>
    clear S0
    obtain ⟨i, j, rfl, rfl, hi, hij, hjb, hA, hB, HS⟩ := hrel
    by_cases hlt : i < j
    · obtain ⟨h, hh⟩ : ∃ h : Nat, ((i : Int) + j) / 2 = h := ⟨(i + j) / 2, by omega⟩
      have hh1 : i ≤ h := by omega
      have hh2 : h < j := by omega
      have hhl : (h : Int) < (sz : Int) := by omega
      have la := HS.out.cl HR.out HLL.out h (by have := HLL.out; have := HSZ.out; omega)
      have lb := HS.out.cl HR.out HLL.out a (by have := HLL.out; have := HSZ.out; omega)
      have HUP : Hid (c (L.getD h 0) < c (L.getD a 0) → ∀ k, m ≤ k → k < h + 1 → c (L.getD k 0) < c (L.getD a 0)) := fun hv k h1 h2 => Int.lt_of_le_of_lt (HST.out.le h1 (by omega) (by omega)) hv
      have HDN : Hid (¬ c (L.getD h 0) < c (L.getD a 0) → h = b ∨ c (L.getD a 0) ≤ c (L.getD h 0)) := fun hv => .inr (by omega)
      generalize hxe : L.getD h 0 = x at la HUP HDN
      have HX := Hid.mk' hxe
      clear hxe
      generalize hy : L.getD a 0 = y at *
      by_cases hcmp : c x < c y
      · have hup := Hid.mk' (HUP.out hcmp)
        clear HUP HDN
        have hd : decide (cf x y < 0) = true := by rw [HCF.out]; exact decide_eq_true hcmp
        have hc := HS.out.cmp HC.out HLL.out x y
        clear hcmp
        go_wp2_with fail
        go_quiet_grown (first | (go_at_fn g; refine Calls.grown_of (hc _ _)))
        have HS2 : Hid (SL w0 blk off L (grow (wr.drewN nq) osq)) := HS.out.grown nq osq
        clear la lb hc HS
        generalize grow (wr.drewN nq) osq = w2 at HS2 ⊢
        clear nq osq
        go_wp2
        go_roundw
        case rel => exact ⟨h + 1, j, by go_num, rfl, by omega, by omega, hjb, hup, hB, HS2⟩
        case measure => simp [intOf]; omega
      · have hdn := Hid.mk' (HDN.out hcmp)
        clear HUP HDN
        have hd : decide (cf x y < 0) = false := by rw [HCF.out]; exact decide_eq_false hcmp
        have hc := HS.out.cmp HC.out HLL.out x y
        clear hcmp
        go_wp2_with fail
        go_quiet_grown (first | (go_at_fn g; refine Calls.grown_of (hc _ _)))
        have HS2 : Hid (SL w0 blk off L (grow (wr.drewN nq) osq)) := HS.out.grown nq osq
        clear la lb hc HS
        generalize grow (wr.drewN nq) osq = w2 at HS2 ⊢
        clear nq osq
        go_wp2
        go_roundw
        case rel => exact ⟨i, h, rfl, rfl, hi, by omega, by omega, hA, (by show _ ∨ _; rw [HX.out]; exact hdn.out), HS2⟩
        case measure => simp [intOf]; omega
    · obtain rfl : i = j := by omega
      obtain ⟨P, x, Y, Z, hL, hP, hY, hBub, hSrt⟩ := ins_left (c := c) (by rw [← HM.out]; exact HST.out) (by rw [← HM.out]; exact hi) hjb (by have := HLL.out; have := HSZ.out; omega) (by rw [← HM.out]; exact hA.out) hB.out
      have HF : Hid (P.length = a ∧ Y.length = i - (a + 1) ∧ L = P ++ [x] ++ Y ++ Z) := ⟨hP, hY, hL⟩
      have HBU := Hid.mk' hBub
      have HSR := Hid.mk' hSrt
      have hd : decide (i < i) = false := by simp
      obtain ⟨i1, hi1⟩ : ∃ i1 : Nat, (i : Int) - 1 = i1 := ⟨i - 1, by omega⟩
      clear hL hP hY hBub hSrt hA hB hd
      go_wp2
      go_loopw [13] (fun z wr => ∃ k : Nat, z = .int .i64 k ∧ a ≤ k ∧ k ≤ i1 ∧ Hid (∃ Y1 Y2, Y = Y1 ++ Y2 ∧ Y1.length = k - a ∧ SL w0 blk off (P ++ Y1 ++ x :: Y2 ++ Z) wr)) (fun z _ => i1 - (intOf z).toNat)
      case atStart => exact ⟨a, rfl, Nat.le_refl _, by omega, [], Y, rfl, by simp, by have := HS.out; rw [HF.out.2.2] at this; simpa using this⟩
      case round =>
        obtain ⟨k, rfl, hk1, hk2, hI⟩ := hrel
        clear HS
        by_cases hlk : k < i1
        · obtain ⟨j, hj⟩ : ∃ j, j = k + 1 := ⟨_, rfl⟩
          obtain ⟨u, v, z, ca, ce, cc, fa, fc, HN⟩ : ∃ (u v : Int) (z : Value), wr.cell? ⟨blk, off + k, none⟩ = some (.int .i32 u) ∧ wr.cell? ⟨blk, off + j, none⟩ = some (.int .i32 v) ∧ (wr.setCell ⟨blk, off + k, none⟩ (.int .i32 v)).cell? ⟨blk, off + j, none⟩ = some z ∧ wr.frozen? ⟨blk, off + k, none⟩ = false ∧ wr.frozen? ⟨blk, off + j, none⟩ = false ∧ Hid (∃ Y1 Y2, Y = Y1 ++ Y2 ∧ Y1.length = k + 1 - a ∧ SL w0 blk off (P ++ Y1 ++ x :: Y2 ++ Z) ((wr.setCell ⟨blk, off + k, none⟩ (.int .i32 v)).setCell ⟨blk, off + j, none⟩ (.int .i32 u)).drew) := by
            obtain ⟨Y1, Y2, rfl, h1, hS⟩ := hI.out
            obtain ⟨q1, q2, q3⟩ := HF.out
            have q4 := HLL.out
            have hm := HM.out
            have q5 := HSZ.out
            rw [q3] at q4
            simp only [List.length_append, List.length_cons, List.length_nil] at q2 q4
            obtain ⟨y, Y2, rfl⟩ : ∃ u U, Y2 = u :: U := by
              cases Y2 with
              | nil => simp at q2; omega
              | cons u U => exact ⟨u, U, rfl⟩
            simp only [List.length_cons] at q2 q4
            have e0 : P ++ Y1 ++ x :: y :: Y2 ++ Z = (P ++ Y1) ++ x :: ([] ++ y :: (Y2 ++ Z)) := by simp
            rw [e0] at hS
            have ei : k = (P ++ Y1).length := by simp; omega
            have ej : j = (P ++ Y1).length + 1 + ([] : List Int).length := by simp; omega
            obtain ⟨g1, g2⟩ := getD_two (P ++ Y1) [] (Y2 ++ Z) x y
            have g3 := swapL_two (P ++ Y1) [] (Y2 ++ Z) x y
            rw [← ej] at g2 g3
            rw [← ei] at g1 g3
            have hL : ((P ++ Y1) ++ x :: ([] ++ y :: (Y2 ++ Z))).length = L0.length := by simp; omega
            have hi' : k < ((P ++ Y1) ++ x :: ([] ++ y :: (Y2 ++ Z))).length := by rw [hL]; omega
            have hj' : j < ((P ++ Y1) ++ x :: ([] ++ y :: (Y2 ++ Z))).length := by rw [hL]; omega
            obtain ⟨z, hz⟩ := hS.two HR.out hL k j hi' hj' (.int .i32 y)
            have c1 := hS.cell HR.out hL k hi'
            have c2 := hS.cell HR.out hL j hj'
            have c3 := hS.swap HR.out k j hi' hj'
            rw [g1] at c1 c3
            rw [g2] at c2 c3
            rw [g3] at c3
            exact ⟨x, y, z, c1, c2, hz, hS.frz HR.out hL k hi', hS.frz HR.out hL j hj', Y1 ++ [y], Y2, by simp, by simp; omega, by simpa using c3⟩
          have pj : ((k : Int) + 1).toNat = j := by omega
          have kl : (k : Int) < (sz : Int) := by omega
          have kl1 : (k : Int) + 1 < (sz : Int) := by omega
          have rj : IntKind.i64.wrap ((k : Int) + 1) = (k : Int) + 1 := by rw [IntKind.wrap_i64]; omega
          have p0 : (0 : Int) ≤ (k : Int) + 1 := by omega
          have hlkz : (k : Int) < (i1 : Int) := by omega
          clear hI hj
          go_wp2
          go_region
          generalize ((wr.setCell ⟨blk, off + k, none⟩ (.int .i32 v)).setCell ⟨blk, off + j, none⟩ (.int .i32 u)).drew = w3 at HN ⊢
          clear ca ce cc fa fc pj kl kl1 rj p0
          go_wp2
          go_roundw
          case rel => exact ⟨k + 1, by go_num, by omega, by omega, HN⟩
          case measure => simp [intOf]; omega
        · obtain rfl : k = i1 := by omega
          go_wp2
          (try simp only [Exit.inBlock, Exit.then]); refine bodyPost_ret (results_none rfl _ _ _) rfl ?_
          refine ⟨rfl, _, HBU.out, HSR.out, ?_⟩
          obtain ⟨Y1, Y2, rfl, h1, hS⟩ := hI.out
          obtain ⟨q1, q2, q3⟩ := HF.out
          simp only [List.length_append] at q2
          have hm := HM.out
          obtain rfl : Y2 = [] := List.length_eq_zero_iff.1 (by omega)
          simpa using hS
set_option maxRecDepth 20000 in
set_option maxHeartbeats 8000000 in
theorem symRight_any (c : Int → Int) (g : Nat) (cb : Array Value) (cf : Int → Int → Int) (hcf : ∀ x y, decide (cf x y < 0) = decide (c x < c y)) (eg : ∀ args w, (callFunc g args).run Tryd.prog w = .ok (.enter g args) w) (w0 : World) (blk off cap : Nat) (L0 : List Int) (R : RL w0 blk off L0) (hcm : CmpL g cb cf blk off L0.length w0) (hs : L0.length ≤ 1073741824)
    (a m b : Nat) (L : List Int) (w : World) (ha1 : a + 1 < m) (hb : b = m + 1) (hbl : b ≤ L.length) (hl : L.length = L0.length) (h1 : Srt c a m L) (S : SL w0 blk off L w) :
    Calls Tryd.prog 98 #[.slice (some ⟨blk, off, none⟩) L0.length cap, .int .i64 a, .int .i64 m, .int .i64 b, .func (.func g) #[] cb] w fun e w' => e = .returned (.tuple #[]) ∧ ∃ L', Bub c a b L L' ∧ Srt c a b L' ∧ SL w0 blk off L' w' := by
  have mixed : Tryd.prog.follows .mixedOrders = true := by kernel_rfl
  have HR := Hid.mk' R
  have HC := Hid.mk' hcm
  have HCF := Hid.mk' hcf
  have HST := Hid.mk' h1
  have HLL := Hid.mk' hl
  have S0 := Hid.mk' S
  obtain ⟨sz, hsz⟩ : ∃ sz, L0.length = sz := ⟨_, rfl⟩
  have hms : m < sz := by omega
  rw [hsz] at hs ⊢
  have HSZ := Hid.mk' hsz
  have hdb : (b : Int) - (m : Int) = 1 := by omega
  obtain ⟨da, hda⟩ : ∃ da : Nat, (m : Int) - (a : Int) = da := ⟨m - a, by omega⟩
  have hd1 : ((da : Int) == 1) = false := by simp; omega
  have hml : (m : Int) < (sz : Int) := by omega
  have ham : a < m := by omega
  have hdaw : da ≤ 1073741824 := by omega
  have HM := Hid.mk' hb
  clear R hcm hcf h1 hl S hsz hbl hb ha1
  go_enter Tryd.func98, Tryd.ntmps98
  go_wp2
  go_loopw [14, 15] (fun x y wr => ∃ i j : Nat, x = .int .i64 i ∧ y = .int .i64 j ∧ a ≤ i ∧ i ≤ j ∧ j ≤ m ∧ Hid (j = m ∨ c (L.getD m 0) < c (L.getD j 0)) ∧ Hid (i = a ∨ c (L.getD (i - 1) 0) ≤ c (L.getD m 0)) ∧ Hid (SL w0 blk off L wr)) (fun x y _ => (intOf y).toNat - (intOf x).toNat)
  case atStart => exact ⟨a, m, rfl, rfl, Nat.le_refl _, by omega, Nat.le_refl _, .inl rfl, .inl rfl, S0⟩
  case round =>
    clear S0
    obtain ⟨i, j, rfl, rfl, hi, hij, hjm, hA, hB, HS⟩ := hrel
    by_cases hlt : i < j
    · obtain ⟨h, hh⟩ : ∃ h : Nat, ((i : Int) + j) / 2 = h := ⟨(i + j) / 2, by omega⟩
      have hh1 : i ≤ h := by omega
      have hh2 : h < j := by omega
      have hhl : (h : Int) < (sz : Int) := by omega
      have la := HS.out.cl HR.out HLL.out m (by have := HLL.out; have := HSZ.out; omega)
      have lb := HS.out.cl HR.out HLL.out h (by have := HLL.out; have := HSZ.out; omega)
      have HUP : Hid (¬ c (L.getD m 0) < c (L.getD h 0) → h + 1 = a ∨ c (L.getD (h + 1 - 1) 0) ≤ c (L.getD m 0)) := fun hv => .inr (by rw [Nat.add_sub_cancel]; omega)
      have HDN : Hid (c (L.getD m 0) < c (L.getD h 0) → h = m ∨ c (L.getD m 0) < c (L.getD h 0)) := fun hv => .inr hv
      generalize hxe : L.getD m 0 = x at la
      generalize hye : L.getD h 0 = y at lb
      have HX := Hid.mk' hxe
      have HY := Hid.mk' hye
      clear hxe hye
      by_cases hcmp : c x < c y
      · have hdn := Hid.mk' (HDN.out (by rw [HX.out, HY.out]; exact hcmp))
        clear HUP HDN
        have hd : decide (cf x y < 0) = true := by rw [HCF.out]; exact decide_eq_true hcmp
        have hc := HS.out.cmp HC.out HLL.out x y
        clear hcmp
        go_wp2_with fail
        go_quiet_grown (first | (go_at_fn g; refine Calls.grown_of (hc _ _)))
        have HS2 : Hid (SL w0 blk off L (grow (wr.drewN nq) osq)) := HS.out.grown nq osq
        clear la lb hc HS
        generalize grow (wr.drewN nq) osq = w2 at HS2 ⊢
        clear nq osq
        go_wp2
        go_roundw
        case rel => exact ⟨i, h, rfl, rfl, hi, by omega, by omega, by rw [← HX.out]; exact hdn, by rw [← HX.out]; exact hB, HS2⟩
        case measure => simp [intOf]; omega
      · have hup := Hid.mk' (HUP.out (by rw [HX.out, HY.out]; exact hcmp))
        clear HUP HDN
        have hd : decide (cf x y < 0) = false := by rw [HCF.out]; exact decide_eq_false hcmp
        have hc := HS.out.cmp HC.out HLL.out x y
        clear hcmp
        go_wp2_with fail
        go_quiet_grown (first | (go_at_fn g; refine Calls.grown_of (hc _ _)))
        have HS2 : Hid (SL w0 blk off L (grow (wr.drewN nq) osq)) := HS.out.grown nq osq
        clear la lb hc HS
        generalize grow (wr.drewN nq) osq = w2 at HS2 ⊢
        clear nq osq
        go_wp2
        go_roundw
        case rel => exact ⟨h + 1, j, by go_num, rfl, by omega, by omega, hjm, by rw [← HX.out]; exact hA, by rw [← HX.out]; exact hup, HS2⟩
        case measure => simp [intOf]; omega
    · obtain rfl : i = j := by omega
      obtain ⟨P, X, y, Z, hL, hP, hX, hBub, hSrt⟩ := ins_right (c := c) HST.out hi hjm (by have := HLL.out; have := HSZ.out; omega) hA.out hB.out
      have HF : Hid (P.length = i ∧ X.length = m - i ∧ L = P ++ X ++ [y] ++ Z) := ⟨hP, hX, hL⟩
      have HBU : Hid (Bub c a b L (P ++ [y] ++ X ++ Z)) := by rw [HM.out]; exact hBub
      have HSR : Hid (Srt c a b (P ++ [y] ++ X ++ Z)) := by rw [HM.out]; exact hSrt
      clear hL hP hX hBub hSrt hA hB
      go_wp2
      go_loopw [17] (fun z wr => ∃ k : Nat, z = .int .i64 k ∧ i ≤ k ∧ k ≤ m ∧ Hid (∃ X1 X2, X = X1 ++ X2 ∧ X1.length = k - i ∧ SL w0 blk off (P ++ X1 ++ y :: X2 ++ Z) wr)) (fun z _ => (intOf z).toNat - i)
      case atStart => exact ⟨m, rfl, hjm, Nat.le_refl _, X, [], by simp, HF.out.2.1, by have := HS.out; rw [HF.out.2.2] at this; simpa using this⟩
      case round =>
        obtain ⟨k, rfl, hk1, hk2, hI⟩ := hrel
        clear HS
        by_cases hlk : i < k
        · obtain ⟨j, hj⟩ : ∃ j : Nat, (k : Int) - 1 = j := ⟨k - 1, by omega⟩
          obtain ⟨u, v, z, ca, ce, cc, fa, fc, HN⟩ : ∃ (u v : Int) (z : Value), wr.cell? ⟨blk, off + k, none⟩ = some (.int .i32 u) ∧ wr.cell? ⟨blk, off + j, none⟩ = some (.int .i32 v) ∧ (wr.setCell ⟨blk, off + k, none⟩ (.int .i32 v)).cell? ⟨blk, off + j, none⟩ = some z ∧ wr.frozen? ⟨blk, off + k, none⟩ = false ∧ wr.frozen? ⟨blk, off + j, none⟩ = false ∧ Hid (∃ X1 X2, X = X1 ++ X2 ∧ X1.length = j - i ∧ SL w0 blk off (P ++ X1 ++ y :: X2 ++ Z) ((wr.setCell ⟨blk, off + k, none⟩ (.int .i32 v)).setCell ⟨blk, off + j, none⟩ (.int .i32 u)).drew) := by
            obtain ⟨X1, X2, rfl, h1, hS⟩ := hI.out
            obtain ⟨q1, q2, q3⟩ := HF.out
            have q4 := HLL.out
            have q5 := HSZ.out
            rw [q3] at q4
            simp only [List.length_append, List.length_cons, List.length_nil] at q2 q4
            obtain ⟨X1, x, rfl⟩ : ∃ U u, X1 = U ++ [u] := by
              rcases List.eq_nil_or_concat X1 with rfl | ⟨U, u, rfl⟩
              · simp at h1; omega
              · exact ⟨U, u, by simp⟩
            simp only [List.length_append, List.length_cons, List.length_nil] at h1 q2 q4
            have e0 : P ++ (X1 ++ [x]) ++ y :: X2 ++ Z = (P ++ X1) ++ x :: ([] ++ y :: (X2 ++ Z)) := by simp
            rw [e0] at hS
            have ei : j = (P ++ X1).length := by simp; omega
            have ej : k = (P ++ X1).length + 1 + ([] : List Int).length := by simp; omega
            obtain ⟨g1, g2⟩ := getD_two (P ++ X1) [] (X2 ++ Z) x y
            have g3 := swapL_two (P ++ X1) [] (X2 ++ Z) x y
            rw [← ej] at g2 g3
            rw [← ei] at g1 g3
            have hL : ((P ++ X1) ++ x :: ([] ++ y :: (X2 ++ Z))).length = L0.length := by simp; omega
            have hi' : j < ((P ++ X1) ++ x :: ([] ++ y :: (X2 ++ Z))).length := by rw [hL]; omega
            have hj' : k < ((P ++ X1) ++ x :: ([] ++ y :: (X2 ++ Z))).length := by rw [hL]; omega
            obtain ⟨z, hz⟩ := hS.two HR.out hL k j hj' hi' (.int .i32 x)
            have c1 := hS.cell HR.out hL k hj'
            have c2 := hS.cell HR.out hL j hi'
            have c3 := hS.swap HR.out k j hj' hi'
            rw [g2] at c1 c3
            rw [g1] at c2 c3
            have g4 : swapL ((P ++ X1) ++ x :: ([] ++ y :: (X2 ++ Z))) k j = swapL ((P ++ X1) ++ x :: ([] ++ y :: (X2 ++ Z))) j k := by
              unfold swapL
              rw [List.set_comm _ _ (by omega : k ≠ j)]
            rw [g4, g3] at c3
            exact ⟨y, x, z, c1, c2, hz, hS.frz HR.out hL k hj', hS.frz HR.out hL j hi', X1, x :: X2, by simp, by omega, by simpa using c3⟩
          have kl : (k : Int) < (sz : Int) := by omega
          have jl : (j : Int) < (sz : Int) := by omega
          have hlkz : (i : Int) < (k : Int) := by omega
          clear hI
          go_wp2
          go_region
          generalize ((wr.setCell ⟨blk, off + k, none⟩ (.int .i32 v)).setCell ⟨blk, off + j, none⟩ (.int .i32 u)).drew = w3 at HN ⊢
          clear ca ce cc fa fc
          go_wp2
          go_roundw
          case rel => exact ⟨j, rfl, by omega, by omega, HN⟩
          case measure => simp [intOf]; omega
        · obtain rfl : k = i := by omega
          go_wp2
          (try simp only [Exit.inBlock, Exit.then]); refine bodyPost_ret (results_none rfl _ _ _) rfl ?_
          refine ⟨rfl, _, HBU.out, HSR.out, ?_⟩
          obtain ⟨X1, X2, rfl, h1, hS⟩ := hI.out
          obtain rfl : X1 = [] := List.length_eq_zero_iff.1 (by omega)
          simpa using hS
end Go.Proofs.YtojpkkbagcahdaaDoor
namespace Go.Proofs.YtojpkkbagcahdaaDoor
open Go.RowKit Go.Sort

set_option maxRecDepth 20000 in
set_option maxHeartbeats 16000000 in
theorem symHigh_any (c : Int → Int) (g : Nat) (cb : Array Value) (cf : Int → Int → Int) (hcf : ∀ x y, decide (cf x y < 0) = decide (c x < c y)) (eg : ∀ args w, (callFunc g args).run Tryd.prog w = .ok (.enter g args) w) (w0 : World) (blk off cap : Nat) (L0 : List Int) (R : RL w0 blk off L0) (hcm : CmpL g cb cf blk off L0.length w0) (hs : L0.length ≤ 1073741824) (a m b mid : Nat) (L : List Int) (w : World) (ham : a < m) (hmb : m < b) (hm1 : ¬ m = a + 1) (hb1 : ¬ b = m + 1) (hmid : (a + b) / 2 = mid) (hside : mid < m) (hbl : b ≤ L.length) (hl : L.length = L0.length) (h1 : Srt c a m L) (h2 : Srt c m b L) (S : SL w0 blk off L w)
    (hrec : ∀ (a' m' b' : Nat) (L : List Int) (w : World), (a' = a ∧ b' = mid ∨ a' = mid ∧ b' = b) → a' < m' → m' < b' → L.length = L0.length → Srt c a' m' L → Srt c m' b' L → SL w0 blk off L w → Calls Tryd.prog 98 #[.slice (some ⟨blk, off, none⟩) L0.length cap, .int .i64 a', .int .i64 m', .int .i64 b', .func (.func g) #[] cb] w fun e w' => e = .returned (.tuple #[]) ∧ ∃ L', Bub c a' b' L L' ∧ Srt c a' b' L' ∧ SL w0 blk off L' w') :
    Calls Tryd.prog 98 #[.slice (some ⟨blk, off, none⟩) L0.length cap, .int .i64 a, .int .i64 m, .int .i64 b, .func (.func g) #[] cb] w fun e w' => e = .returned (.tuple #[]) ∧ ∃ L', Bub c a b L L' ∧ Srt c a b L' ∧ SL w0 blk off L' w' := by
  have mixed : Tryd.prog.follows .mixedOrders = true := by kernel_rfl
  have HREC := Hid.mk' hrec
  have hq1 := hm1
  clear hq1
  have HROT : Hid (∀ (P X Y Q : List Int) (s m' e' : Nat) (w : World), P.length = s → s + X.length = m' → m' + Y.length = e' → 0 < X.length → 0 < Y.length → (P ++ X ++ Y ++ Q).length = L0.length → SL w0 blk off (P ++ X ++ Y ++ Q) w → Calls Tryd.prog 108 #[.slice (some ⟨blk, off, none⟩) L0.length cap, .int .i64 s, .int .i64 m', .int .i64 e', .func (.func g) #[] cb] w fun e w' => e = .returned (.tuple #[]) ∧ SL w0 blk off (P ++ Y ++ X ++ Q) w') := fun P X Y Q s m' e' w hp hx hy hx0 hy0 hL hS => by
    subst hp hx hy
    exact rotate_any (.func g) cb w0 blk off cap L0 R P X Y Q hx0 hy0 hL (by omega) w hS
  have HR := Hid.mk' R
  have HC := Hid.mk' hcm
  have HCF := Hid.mk' hcf
  have HLL := Hid.mk' hl
  have S0 := Hid.mk' S
  have HST := Hid.mk' (⟨h1, h2⟩ : Srt c a m L ∧ Srt c m b L)
  obtain ⟨sz, hsz⟩ : ∃ sz, L0.length = sz := ⟨_, rfl⟩
  have hbs : b ≤ sz := by omega
  rw [hsz] at hs ⊢
  rw [hsz] at HREC HROT
  have HSZ := Hid.mk' hsz
  obtain ⟨da, hda⟩ : ∃ da : Nat, (m : Int) - (a : Int) = da := ⟨m - a, by omega⟩
  have hd1 : ((da : Int) == 1) = false := by simp; omega
  obtain ⟨db, hdb⟩ : ∃ db : Nat, (b : Int) - (m : Int) = db := ⟨b - m, by omega⟩
  have hd2 : ((db : Int) == 1) = false := by simp; omega
  have hmidz : ((a : Int) + (b : Int)) / 2 = (mid : Nat) := by omega
  have ham' : a < mid := by omega
  have hmb' : mid < b := by omega
  obtain ⟨n, hn⟩ : ∃ n : Nat, (mid : Int) + (m : Int) = n := ⟨mid + m, by omega⟩
  obtain ⟨p, hp⟩ : ∃ p : Nat, (n : Int) - 1 = p := ⟨n - 1, by omega⟩
  have hnz : n ≤ 2147483648 := by omega
  have hdaw : da ≤ 1073741824 := by omega
  have hdbw : db ≤ 1073741824 := by omega
  clear R hcm hcf h1 h2 hl S hsz hbl hm1 hb1 hmid hrec
  obtain ⟨lo, hnl⟩ : ∃ lo : Nat, (n : Int) - (b : Int) = lo := ⟨n - b, by omega⟩
  have hcd : decide (mid < m) = true := decide_eq_true hside
  have hlh : lo ≤ mid := by omega
  have hal : a ≤ lo := by omega
  have hhm : mid ≤ m := by omega
  have hnb : n ≤ b + lo := by omega
  have HQO : Hid (lo = a ∨ n = b + lo) := .inr (by omega)
  have HQI : Hid (mid = m ∨ mid = mid) := .inr rfl
  clear hside
  go_enter Tryd.func98, Tryd.ntmps98
  go_wp2
  go_loopw [20, 21] (fun x y wr => ∃ s r : Nat, x = .int .i64 s ∧ y = .int .i64 r ∧ lo ≤ s ∧ s ≤ r ∧ r ≤ mid ∧ Hid (s = lo ∨ c (L.getD (s - 1) 0) ≤ c (L.getD (n - s) 0)) ∧ Hid (r = mid ∨ c (L.getD (p - r) 0) < c (L.getD r 0)) ∧ Hid (SL w0 blk off L wr)) (fun x y _ => (intOf y).toNat - (intOf x).toNat)
  case atStart => exact ⟨lo, mid, rfl, rfl, Nat.le_refl _, hlh, Nat.le_refl _, .inl rfl, .inl rfl, S0⟩
  case round =>
    clear S0
    obtain ⟨s, r, rfl, rfl, hs1, hsr, hr2, hA, hB, HS⟩ := hrel
    by_cases hlt : s < r
    · obtain ⟨h, hh⟩ : ∃ h : Nat, ((s : Int) + r) / 2 = h := ⟨(s + r) / 2, by omega⟩
      have hh1 : s ≤ h := by omega
      have hh2 : h < r := by omega
      have hhl : (h : Int) < (sz : Int) := by omega
      obtain ⟨q, hq⟩ : ∃ q : Nat, (p : Int) - (h : Int) = q := ⟨p - h, by omega⟩
      have hql : (q : Int) < (sz : Int) := by omega
      have rq : IntKind.i64.wrap ((p : Int) - (h : Int)) = (q : Int) := by rw [hq, IntKind.wrap_i64]; omega
      have rq' : IntKind.i64.wrap (q : Int) = (q : Int) := by rw [IntKind.wrap_i64]; omega
      have la := HS.out.cl HR.out HLL.out q (by have := HLL.out; have := HSZ.out; omega)
      have lb := HS.out.cl HR.out HLL.out h (by have := HLL.out; have := HSZ.out; omega)
      have HUP : Hid (¬ c (L.getD q 0) < c (L.getD h 0) → h + 1 = lo ∨ c (L.getD (h + 1 - 1) 0) ≤ c (L.getD (n - (h + 1)) 0)) := fun hv => .inr (by rw [Nat.add_sub_cancel, show n - (h + 1) = q by omega]; omega)
      have HDN : Hid (c (L.getD q 0) < c (L.getD h 0) → h = mid ∨ c (L.getD (p - h) 0) < c (L.getD h 0)) := fun hv => .inr (by rw [show p - h = q by omega]; exact hv)
      obtain ⟨x, hxe⟩ : ∃ x, L.getD q 0 = x := ⟨_, rfl⟩
      obtain ⟨y, hye⟩ : ∃ y, L.getD h 0 = y := ⟨_, rfl⟩
      rw [hxe] at HUP HDN
      rw [hye] at HUP HDN lb
      have la' : ∀ (n : Nat) (os : Array Obj), (grow (wr.drewN n) os).cell? ⟨blk, off + q, none⟩ = some (.int .i32 x) := fun n os => by rw [← hxe]; exact la n os
      have lb' : ∀ (n : Nat) (os : Array Obj), (grow (wr.drewN n) os).cell? ⟨blk, off + h, none⟩ = some (.int .i32 y) := lb
      clear la lb
      have la := la'
      have lb := lb'
      have HY := Hid.mk' hye
      clear la' lb' hxe hye
      by_cases hcmp : c x < c y
      · have hdn := Hid.mk' (HDN.out hcmp)
        clear HUP HDN
        have hd : decide (cf x y < 0) = true := by rw [HCF.out]; exact decide_eq_true hcmp
        have hc := HS.out.cmp HC.out HLL.out x y
        clear hcmp
        go_wp2_with fail
        go_quiet_grown (first | (go_at_fn g; refine Calls.grown_of (hc _ _)))
        have HS2 : Hid (SL w0 blk off L (grow (wr.drewN nq) osq)) := HS.out.grown nq osq
        clear la lb hc HS
        generalize grow (wr.drewN nq) osq = w2 at HS2 ⊢
        clear nq osq
        go_wp2
        go_roundw
        case rel => exact ⟨s, h, rfl, rfl, hs1, by omega, by omega, hA, by rw [HY.out]; exact hdn, HS2⟩
        case measure => simp [intOf]; omega
      · have hup := Hid.mk' (HUP.out hcmp)
        clear HUP HDN
        have hd : decide (cf x y < 0) = false := by rw [HCF.out]; exact decide_eq_false hcmp
        have hc := HS.out.cmp HC.out HLL.out x y
        clear hcmp
        go_wp2_with fail
        go_quiet_grown (first | (go_at_fn g; refine Calls.grown_of (hc _ _)))
        have HS2 : Hid (SL w0 blk off L (grow (wr.drewN nq) osq)) := HS.out.grown nq osq
        clear la lb hc HS
        generalize grow (wr.drewN nq) osq = w2 at HS2 ⊢
        clear nq osq
        go_wp2
        go_roundw
        case rel => exact ⟨h + 1, r, by go_num, rfl, by omega, by omega, hr2, hup, hB, HS2⟩
        case measure => simp [intOf]; omega
    · obtain rfl : s = r := by omega
      obtain ⟨en, hen⟩ : ∃ en : Nat, (n : Int) - (s : Int) = en := ⟨n - s, by omega⟩
      have hsd : decide ((s : Int) < (s : Int)) = false := by simp
      obtain ⟨P, X, Y, Q, hL, hP, hX, hY, hBub, m1, m2, m3, m4, hcr⟩ := merge_step (c := c) (mid := mid) (s := s) (e := en) HST.out.1 HST.out.2 (by omega) (by omega) (by omega) (by omega) (by have := HLL.out; have := HSZ.out; omega) (by omega)
        (by have q1 := HQO.out
            rcases hA.out with h | h
            · omega
            · exact .inr (.inr (by rw [← show n - s = en by omega]; exact h)))
        (by have q1 := HQI.out
            rcases hB.out with h | h
            · omega
            · exact .inr (.inr (by rw [← show p - s = en - 1 by omega]; exact h)))
      have HROTC : Hid (s < m → m < en → Calls Tryd.prog 108 #[.slice (some ⟨blk, off, none⟩) sz cap, .int .i64 s, .int .i64 m, .int .i64 en, .func (.func g) #[] cb] wr fun e w' => e = .returned (.tuple #[]) ∧ SL w0 blk off (P ++ Y ++ X ++ Q) w') := fun q1 q2 => HROT.out P X Y Q s m en wr hP (by omega) (by omega) (by omega) (by omega) (by rw [← hL, HLL.out, HSZ.out]) (by rw [← hL]; exact HS.out)
      have HSAME : Hid (¬ (s < m ∧ m < en) → SL w0 blk off (P ++ Y ++ X ++ Q) wr) := fun q1 => by
        have := HS.out
        rw [hL] at this
        rcases (by omega : X.length = 0 ∨ Y.length = 0) with h | h
        · obtain rfl := List.length_eq_zero_iff.1 h; simpa using this
        · obtain rfl := List.length_eq_zero_iff.1 h; simpa using this
      have HLN : Hid ((P ++ Y ++ X ++ Q).length = L0.length) := by
        show _ = _
        rw [← HLL.out]
        exact hBub.length
      generalize P ++ Y ++ X ++ Q = L' at *
      have HM1 := Hid.mk' m1
      have HM2 := Hid.mk' m2
      have HM3 := Hid.mk' m3
      have HM4 := Hid.mk' m4
      have HCR := Hid.mk' hcr
      have HBU := Hid.mk' hBub
      rw [HSZ.out] at HLN
      have hse : s ≤ mid := by omega
      have hem : m ≤ en := by omega
      have hms' : mid ≤ en := by omega
      have heb : en ≤ b := by omega
      have has : a ≤ s := by omega
      clear m1 m2 m3 m4 hcr hBub hL hP hX hY HROT hA hB HST HS
      obtain ⟨bo, hbo⟩ : ∃ bo, decide (s < m ∧ m < en) = bo := ⟨_, rfl⟩
      have HBO := Hid.mk' hbo
      clear hbo
      go_upto_region 39 with fail
      go_cut [185] from 178 to 184 (fun x wx => x = .bool bo ∧ wr = wx)
      case first =>
        have hx : (decide (s < m) = false ∧ bo = false) ∨ (decide (s < m) = true ∧ decide (m < en) = false ∧ bo = false) ∨ (decide (s < m) = true ∧ decide (m < en) = true ∧ bo = true) := by
          rw [← HBO.out]
          simp only [decide_eq_true_eq, decide_eq_false_iff_not]
          omega
        clear HROTC HSAME
        rcases hx with ⟨x1, rfl⟩ | ⟨x1, x2, rfl⟩ | ⟨x1, x2, rfl⟩
        all_goals
          go_wp2
          go_meet
          case rel => exact ⟨by first | rfl | rw [x2], rfl⟩
      case rest =>
      obtain ⟨rfl, rfl⟩ := hcut
      go_upto_if 185 with fail
      go_cut [20] from 178 to 191 (fun x wx => x = .int .i64 s ∧ Hid (SL w0 blk off L' wx))
      case first =>
        cases bo
        · have HS3 := Hid.mk' (HSAME.out (of_decide_eq_false HBO.out))
          clear HROTC HSAME
          go_wp2
          go_meet
          case rel => exact ⟨rfl, HS3⟩
        · have hro := of_decide_eq_true HBO.out
          have HC4 := Hid.mk' (HROTC.out hro.1 hro.2)
          clear hro HROTC HSAME
          go_wp2_with fail
          refine HC4.out.mono ?_
          rintro e' w3 ⟨rfl, hS3⟩
          have HS3 := Hid.mk' hS3
          clear hS3 HC4
          go_wp2
          go_meet
          case rel => exact ⟨rfl, HS3⟩
      case rest =>
        obtain ⟨rfl, HS3⟩ := hcut
        clear HROTC HSAME
        clear HBO
        obtain ⟨bo, hbo⟩ : ∃ bo, decide (a < s ∧ s < mid) = bo := ⟨_, rfl⟩
        have HBO := Hid.mk' hbo
        clear hbo
        obtain ⟨wq, hwq⟩ : ∃ wq, wc = wq := ⟨_, rfl⟩
        rw [hwq] at HS3 ⊢
        clear hwq
        go_upto_region 41 with fail
        go_cut [199] from 192 to 198 (fun x wx => x = .bool bo ∧ wq = wx)
        case first =>
          have hx : (decide (a < s) = false ∧ bo = false) ∨ (decide (a < s) = true ∧ decide (s < mid) = false ∧ bo = false) ∨ (decide (a < s) = true ∧ decide (s < mid) = true ∧ bo = true) := by
            rw [← HBO.out]
            simp only [decide_eq_true_eq, decide_eq_false_iff_not]
            omega
          rcases hx with ⟨x1, rfl⟩ | ⟨x1, x2, rfl⟩ | ⟨x1, x2, rfl⟩
          all_goals
            go_wp2
            go_meet
            case rel => exact ⟨by first | rfl | rw [x2], rfl⟩
        case rest =>
        obtain ⟨rfl, rfl⟩ := hcut
        go_upto_if 199 with fail
        go_cut [20] from 192 to 205 (fun x wx => x = .int .i64 s ∧ Hid (∃ L1, Bub c a mid L' L1 ∧ Srt c a mid L1 ∧ SL w0 blk off L1 wx))
        case first =>
          cases bo
          · have hr1 := of_decide_eq_false HBO.out
            have HS5 : Hid (∃ L1, Bub c a mid L' L1 ∧ Srt c a mid L1 ∧ SL w0 blk off L1 wq) := by
              refine ⟨L', .refl _, ?_, HS3.out⟩
              rcases (by omega : s = a ∨ s = mid) with h | h
              · have := HM2.out; rwa [h] at this
              · have := HM1.out; rwa [h] at this
            clear hr1 HS3
            go_wp2
            go_meet
            case rel => exact ⟨rfl, HS5⟩
          · have hr1 := of_decide_eq_true HBO.out
            have HC5 := Hid.mk' (HREC.out a s mid L' wq (.inl ⟨rfl, rfl⟩) hr1.1 hr1.2 HLN.out HM1.out HM2.out HS3.out)
            clear hr1 HS3
            go_wp2_with fail
            refine HC5.out.mono ?_
            rintro e' w5 ⟨rfl, hS5⟩
            have HS5 := Hid.mk' hS5
            clear hS5 HC5
            go_wp2
            go_meet
            case rel => exact ⟨rfl, HS5⟩
        case rest =>
          obtain ⟨rfl, HS5⟩ := hcut
          clear HS3 HBO
          obtain ⟨L1, hB1, hA1, hSL1⟩ := HS5.out
          have HB1 := Hid.mk' hB1
          have HA1 := Hid.mk' hA1
          have HS4 := Hid.mk' hSL1
          clear hB1 hA1 hSL1 HS5
          by_cases hr2 : mid < en ∧ en < b
          · have z1 : decide (mid < en) = true := by simp; omega
            have z2 : decide (en < b) = true := by simp; omega
            have HC6 := Hid.mk' (HREC.out mid en b L1 wc (.inr ⟨rfl, rfl⟩) hr2.1 hr2.2 (HB1.out.length.trans HLN.out) (HM3.out.out HB1.out (.inr (Nat.le_refl _))) (HM4.out.out HB1.out (.inr (by omega))) HS4.out)
            clear hr2 HREC HS4
            go_wp2_with fail
            refine HC6.out.mono ?_
            rintro e' w6 ⟨rfl, L2, hB2, hS2, hSL2⟩
            have HFIN : Hid (∃ L', Bub c a b L L' ∧ Srt c a b L' ∧ SL w0 blk off L' w6) := ⟨L2, HBU.out.trans ((HB1.out.mono (Nat.le_refl _) (by omega)).trans (hB2.mono (by omega) (Nat.le_refl _))), Srt.both (HA1.out.out hB2 (.inl (Nat.le_refl _))) hS2 (cross_keep HB1.out hB2 HCR.out), hSL2⟩
            clear hB2 hS2 hSL2
            go_wp2
            go_end0
            exact ⟨rfl, HFIN.out⟩
          · have HFIN : Hid (∃ L', Bub c a b L L' ∧ Srt c a b L' ∧ SL w0 blk off L' wc) := by
              have hS2 : Srt c mid b L1 := by
                rcases (by omega : en = mid ∨ en = b) with h | h
                · have := HM4.out.out HB1.out (.inr (by omega)); rwa [h] at this
                · have := HM3.out.out HB1.out (.inr (Nat.le_refl _)); rwa [h] at this
              exact ⟨L1, HBU.out.trans (HB1.out.mono (Nat.le_refl _) (by omega)), Srt.both HA1.out hS2 (cross_keep HB1.out (.refl _) HCR.out), HS4.out⟩
            have hz : decide (mid < en) = false ∨ (decide (mid < en) = true ∧ decide (en < b) = false) := by
              by_cases h : mid < en
              · right; simp; omega
              · left; simp; omega
            clear hr2 HREC HS4
            rcases hz with z1 | ⟨z1, z2⟩
            all_goals
              go_wp2
              go_end0
              exact ⟨rfl, HFIN.out⟩
end Go.Proofs.YtojpkkbagcahdaaDoor
namespace Go.Proofs.YtojpkkbagcahdaaDoor
open Go.RowKit Go.Sort

set_option maxRecDepth 20000 in
set_option maxHeartbeats 16000000 in
theorem symLow_any (c : Int → Int) (g : Nat) (cb : Array Value) (cf : Int → Int → Int) (hcf : ∀ x y, decide (cf x y < 0) = decide (c x < c y)) (eg : ∀ args w, (callFunc g args).run Tryd.prog w = .ok (.enter g args) w) (w0 : World) (blk off cap : Nat) (L0 : List Int) (R : RL w0 blk off L0) (hcm : CmpL g cb cf blk off L0.length w0) (hs : L0.length ≤ 1073741824) (a m b mid : Nat) (L : List Int) (w : World) (ham : a < m) (hmb : m < b) (hm1 : ¬ m = a + 1) (hb1 : ¬ b = m + 1) (hmid : (a + b) / 2 = mid) (hside : m ≤ mid) (hbl : b ≤ L.length) (hl : L.length = L0.length) (h1 : Srt c a m L) (h2 : Srt c m b L) (S : SL w0 blk off L w)
    (hrec : ∀ (a' m' b' : Nat) (L : List Int) (w : World), (a' = a ∧ b' = mid ∨ a' = mid ∧ b' = b) → a' < m' → m' < b' → L.length = L0.length → Srt c a' m' L → Srt c m' b' L → SL w0 blk off L w → Calls Tryd.prog 98 #[.slice (some ⟨blk, off, none⟩) L0.length cap, .int .i64 a', .int .i64 m', .int .i64 b', .func (.func g) #[] cb] w fun e w' => e = .returned (.tuple #[]) ∧ ∃ L', Bub c a' b' L L' ∧ Srt c a' b' L' ∧ SL w0 blk off L' w') :
    Calls Tryd.prog 98 #[.slice (some ⟨blk, off, none⟩) L0.length cap, .int .i64 a, .int .i64 m, .int .i64 b, .func (.func g) #[] cb] w fun e w' => e = .returned (.tuple #[]) ∧ ∃ L', Bub c a b L L' ∧ Srt c a b L' ∧ SL w0 blk off L' w' := by
  have mixed : Tryd.prog.follows .mixedOrders = true := by kernel_rfl
  have HREC := Hid.mk' hrec
  have hq1 := hm1
  clear hq1
  have HROT : Hid (∀ (P X Y Q : List Int) (s m' e' : Nat) (w : World), P.length = s → s + X.length = m' → m' + Y.length = e' → 0 < X.length → 0 < Y.length → (P ++ X ++ Y ++ Q).length = L0.length → SL w0 blk off (P ++ X ++ Y ++ Q) w → Calls Tryd.prog 108 #[.slice (some ⟨blk, off, none⟩) L0.length cap, .int .i64 s, .int .i64 m', .int .i64 e', .func (.func g) #[] cb] w fun e w' => e = .returned (.tuple #[]) ∧ SL w0 blk off (P ++ Y ++ X ++ Q) w') := fun P X Y Q s m' e' w hp hx hy hx0 hy0 hL hS => by
    subst hp hx hy
    exact rotate_any (.func g) cb w0 blk off cap L0 R P X Y Q hx0 hy0 hL (by omega) w hS
  have HR := Hid.mk' R
  have HC := Hid.mk' hcm
  have HCF := Hid.mk' hcf
  have HLL := Hid.mk' hl
  have S0 := Hid.mk' S
  have HST := Hid.mk' (⟨h1, h2⟩ : Srt c a m L ∧ Srt c m b L)
  obtain ⟨sz, hsz⟩ : ∃ sz, L0.length = sz := ⟨_, rfl⟩
  have hbs : b ≤ sz := by omega
  rw [hsz] at hs ⊢
  rw [hsz] at HREC HROT
  have HSZ := Hid.mk' hsz
  obtain ⟨da, hda⟩ : ∃ da : Nat, (m : Int) - (a : Int) = da := ⟨m - a, by omega⟩
  have hd1 : ((da : Int) == 1) = false := by simp; omega
  obtain ⟨db, hdb⟩ : ∃ db : Nat, (b : Int) - (m : Int) = db := ⟨b - m, by omega⟩
  have hd2 : ((db : Int) == 1) = false := by simp; omega
  have hmidz : ((a : Int) + (b : Int)) / 2 = (mid : Nat) := by omega
  have ham' : a < mid := by omega
  have hmb' : mid < b := by omega
  obtain ⟨n, hn⟩ : ∃ n : Nat, (mid : Int) + (m : Int) = n := ⟨mid + m, by omega⟩
  obtain ⟨p, hp⟩ : ∃ p : Nat, (n : Int) - 1 = p := ⟨n - 1, by omega⟩
  have hnz : n ≤ 2147483648 := by omega
  have hdaw : da ≤ 1073741824 := by omega
  have hdbw : db ≤ 1073741824 := by omega
  clear R hcm hcf h1 h2 hl S hsz hbl hm1 hb1 hmid hrec
  have hcd : decide (mid < m) = false := decide_eq_false (by omega)
  have hlh : a ≤ m := by omega
  have hnb : n ≤ b + a := by omega
  have HQO : Hid (a = a ∨ n = b + a) := .inl rfl
  have HQI : Hid (m = m ∨ m = mid) := .inl rfl
  go_enter Tryd.func98, Tryd.ntmps98
  go_wp2
  go_loopw [20, 21] (fun x y wr => ∃ s r : Nat, x = .int .i64 s ∧ y = .int .i64 r ∧ a ≤ s ∧ s ≤ r ∧ r ≤ m ∧ Hid (s = a ∨ c (L.getD (s - 1) 0) ≤ c (L.getD (n - s) 0)) ∧ Hid (r = m ∨ c (L.getD (p - r) 0) < c (L.getD r 0)) ∧ Hid (SL w0 blk off L wr)) (fun x y _ => (intOf y).toNat - (intOf x).toNat)
  case atStart => exact ⟨a, m, rfl, rfl, Nat.le_refl _, hlh, Nat.le_refl _, .inl rfl, .inl rfl, S0⟩
  case round =>
    clear S0
    obtain ⟨s, r, rfl, rfl, hs1, hsr, hr2, hA, hB, HS⟩ := hrel
    by_cases hlt : s < r
    · obtain ⟨h, hh⟩ : ∃ h : Nat, ((s : Int) + r) / 2 = h := ⟨(s + r) / 2, by omega⟩
      have hh1 : s ≤ h := by omega
      have hh2 : h < r := by omega
      have hhl : (h : Int) < (sz : Int) := by omega
      obtain ⟨q, hq⟩ : ∃ q : Nat, (p : Int) - (h : Int) = q := ⟨p - h, by omega⟩
      have hql : (q : Int) < (sz : Int) := by omega
      have rq : IntKind.i64.wrap ((p : Int) - (h : Int)) = (q : Int) := by rw [hq, IntKind.wrap_i64]; omega
      have rq' : IntKind.i64.wrap (q : Int) = (q : Int) := by rw [IntKind.wrap_i64]; omega
      have la := HS.out.cl HR.out HLL.out q (by have := HLL.out; have := HSZ.out; omega)
      have lb := HS.out.cl HR.out HLL.out h (by have := HLL.out; have := HSZ.out; omega)
      have HUP : Hid (¬ c (L.getD q 0) < c (L.getD h 0) → h + 1 = a ∨ c (L.getD (h + 1 - 1) 0) ≤ c (L.getD (n - (h + 1)) 0)) := fun hv => .inr (by rw [Nat.add_sub_cancel, show n - (h + 1) = q by omega]; omega)
      have HDN : Hid (c (L.getD q 0) < c (L.getD h 0) → h = m ∨ c (L.getD (p - h) 0) < c (L.getD h 0)) := fun hv => .inr (by rw [show p - h = q by omega]; exact hv)
      obtain ⟨x, hxe⟩ : ∃ x, L.getD q 0 = x := ⟨_, rfl⟩
      obtain ⟨y, hye⟩ : ∃ y, L.getD h 0 = y := ⟨_, rfl⟩
      rw [hxe] at HUP HDN
      rw [hye] at HUP HDN lb
      have la' : ∀ (n : Nat) (os : Array Obj), (grow (wr.drewN n) os).cell? ⟨blk, off + q, none⟩ = some (.int .i32 x) := fun n os => by rw [← hxe]; exact la n os
      have lb' : ∀ (n : Nat) (os : Array Obj), (grow (wr.drewN n) os).cell? ⟨blk, off + h, none⟩ = some (.int .i32 y) := lb
      clear la lb
      have la := la'
      have lb := lb'
      have HY := Hid.mk' hye
      clear la' lb' hxe hye
      by_cases hcmp : c x < c y
      · have hdn := Hid.mk' (HDN.out hcmp)
        clear HUP HDN
        have hd : decide (cf x y < 0) = true := by rw [HCF.out]; exact decide_eq_true hcmp
        have hc := HS.out.cmp HC.out HLL.out x y
        clear hcmp
        go_wp2_with fail
        go_quiet_grown (first | (go_at_fn g; refine Calls.grown_of (hc _ _)))
        have HS2 : Hid (SL w0 blk off L (grow (wr.drewN nq) osq)) := HS.out.grown nq osq
        clear la lb hc HS
        generalize grow (wr.drewN nq) osq = w2 at HS2 ⊢
        clear nq osq
        go_wp2
        go_roundw
        case rel => exact ⟨s, h, rfl, rfl, hs1, by omega, by omega, hA, by rw [HY.out]; exact hdn, HS2⟩
        case measure => simp [intOf]; omega
      · have hup := Hid.mk' (HUP.out hcmp)
        clear HUP HDN
        have hd : decide (cf x y < 0) = false := by rw [HCF.out]; exact decide_eq_false hcmp
        have hc := HS.out.cmp HC.out HLL.out x y
        clear hcmp
        go_wp2_with fail
        go_quiet_grown (first | (go_at_fn g; refine Calls.grown_of (hc _ _)))
        have HS2 : Hid (SL w0 blk off L (grow (wr.drewN nq) osq)) := HS.out.grown nq osq
        clear la lb hc HS
        generalize grow (wr.drewN nq) osq = w2 at HS2 ⊢
        clear nq osq
        go_wp2
        go_roundw
        case rel => exact ⟨h + 1, r, by go_num, rfl, by omega, by omega, hr2, hup, hB, HS2⟩
        case measure => simp [intOf]; omega
    · obtain rfl : s = r := by omega
      obtain ⟨en, hen⟩ : ∃ en : Nat, (n : Int) - (s : Int) = en := ⟨n - s, by omega⟩
      have hsd : decide ((s : Int) < (s : Int)) = false := by simp
      obtain ⟨P, X, Y, Q, hL, hP, hX, hY, hBub, m1, m2, m3, m4, hcr⟩ := merge_step (c := c) (mid := mid) (s := s) (e := en) HST.out.1 HST.out.2 (by omega) (by omega) (by omega) (by omega) (by have := HLL.out; have := HSZ.out; omega) (by omega)
        (by have q1 := HQO.out
            rcases hA.out with h | h
            · omega
            · exact .inr (.inr (by rw [← show n - s = en by omega]; exact h)))
        (by have q1 := HQI.out
            rcases hB.out with h | h
            · omega
            · exact .inr (.inr (by rw [← show p - s = en - 1 by omega]; exact h)))
      have HROTC : Hid (s < m → m < en → Calls Tryd.prog 108 #[.slice (some ⟨blk, off, none⟩) sz cap, .int .i64 s, .int .i64 m, .int .i64 en, .func (.func g) #[] cb] wr fun e w' => e = .returned (.tuple #[]) ∧ SL w0 blk off (P ++ Y ++ X ++ Q) w') := fun q1 q2 => HROT.out P X Y Q s m en wr hP (by omega) (by omega) (by omega) (by omega) (by rw [← hL, HLL.out, HSZ.out]) (by rw [← hL]; exact HS.out)
      have HSAME : Hid (¬ (s < m ∧ m < en) → SL w0 blk off (P ++ Y ++ X ++ Q) wr) := fun q1 => by
        have := HS.out
        rw [hL] at this
        rcases (by omega : X.length = 0 ∨ Y.length = 0) with h | h
        · obtain rfl := List.length_eq_zero_iff.1 h; simpa using this
        · obtain rfl := List.length_eq_zero_iff.1 h; simpa using this
      have HLN : Hid ((P ++ Y ++ X ++ Q).length = L0.length) := by
        show _ = _
        rw [← HLL.out]
        exact hBub.length
      generalize P ++ Y ++ X ++ Q = L' at *
      have HM1 := Hid.mk' m1
      have HM2 := Hid.mk' m2
      have HM3 := Hid.mk' m3
      have HM4 := Hid.mk' m4
      have HCR := Hid.mk' hcr
      have HBU := Hid.mk' hBub
      rw [HSZ.out] at HLN
      have hse : s ≤ mid := by omega
      have hem : m ≤ en := by omega
      have hms' : mid ≤ en := by omega
      have heb : en ≤ b := by omega
      have has : a ≤ s := by omega
      clear m1 m2 m3 m4 hcr hBub hL hP hX hY HROT hA hB HST HS
      obtain ⟨bo, hbo⟩ : ∃ bo, decide (s < m ∧ m < en) = bo := ⟨_, rfl⟩
      have HBO := Hid.mk' hbo
      clear hbo
      go_upto_region 39 with fail
      go_cut [185] from 178 to 184 (fun x wx => x = .bool bo ∧ wr = wx)
      case first =>
        have hx : (decide (s < m) = false ∧ bo = false) ∨ (decide (s < m) = true ∧ decide (m < en) = false ∧ bo = false) ∨ (decide (s < m) = true ∧ decide (m < en) = true ∧ bo = true) := by
          rw [← HBO.out]
          simp only [decide_eq_true_eq, decide_eq_false_iff_not]
          omega
        clear HROTC HSAME
        rcases hx with ⟨x1, rfl⟩ | ⟨x1, x2, rfl⟩ | ⟨x1, x2, rfl⟩
        all_goals
          go_wp2
          go_meet
          case rel => exact ⟨by first | rfl | rw [x2], rfl⟩
      case rest =>
      obtain ⟨rfl, rfl⟩ := hcut
      go_upto_if 185 with fail
      go_cut [20] from 178 to 191 (fun x wx => x = .int .i64 s ∧ Hid (SL w0 blk off L' wx))
      case first =>
        cases bo
        · have HS3 := Hid.mk' (HSAME.out (of_decide_eq_false HBO.out))
          clear HROTC HSAME
          go_wp2
          go_meet
          case rel => exact ⟨rfl, HS3⟩
        · have hro := of_decide_eq_true HBO.out
          have HC4 := Hid.mk' (HROTC.out hro.1 hro.2)
          clear hro HROTC HSAME
          go_wp2_with fail
          refine HC4.out.mono ?_
          rintro e' w3 ⟨rfl, hS3⟩
          have HS3 := Hid.mk' hS3
          clear hS3 HC4
          go_wp2
          go_meet
          case rel => exact ⟨rfl, HS3⟩
      case rest =>
        obtain ⟨rfl, HS3⟩ := hcut
        clear HROTC HSAME
        clear HBO
        obtain ⟨bo, hbo⟩ : ∃ bo, decide (a < s ∧ s < mid) = bo := ⟨_, rfl⟩
        have HBO := Hid.mk' hbo
        clear hbo
        obtain ⟨wq, hwq⟩ : ∃ wq, wc = wq := ⟨_, rfl⟩
        rw [hwq] at HS3 ⊢
        clear hwq
        go_upto_region 41 with fail
        go_cut [199] from 192 to 198 (fun x wx => x = .bool bo ∧ wq = wx)
        case first =>
          have hx : (decide (a < s) = false ∧ bo = false) ∨ (decide (a < s) = true ∧ decide (s < mid) = false ∧ bo = false) ∨ (decide (a < s) = true ∧ decide (s < mid) = true ∧ bo = true) := by
            rw [← HBO.out]
            simp only [decide_eq_true_eq, decide_eq_false_iff_not]
            omega
          rcases hx with ⟨x1, rfl⟩ | ⟨x1, x2, rfl⟩ | ⟨x1, x2, rfl⟩
          all_goals
            go_wp2
            go_meet
            case rel => exact ⟨by first | rfl | rw [x2], rfl⟩
        case rest =>
        obtain ⟨rfl, rfl⟩ := hcut
        go_upto_if 199 with fail
        go_cut [20] from 192 to 205 (fun x wx => x = .int .i64 s ∧ Hid (∃ L1, Bub c a mid L' L1 ∧ Srt c a mid L1 ∧ SL w0 blk off L1 wx))
        case first =>
          cases bo
          · have hr1 := of_decide_eq_false HBO.out
            have HS5 : Hid (∃ L1, Bub c a mid L' L1 ∧ Srt c a mid L1 ∧ SL w0 blk off L1 wq) := by
              refine ⟨L', .refl _, ?_, HS3.out⟩
              rcases (by omega : s = a ∨ s = mid) with h | h
              · have := HM2.out; rwa [h] at this
              · have := HM1.out; rwa [h] at this
            clear hr1 HS3
            go_wp2
            go_meet
            case rel => exact ⟨rfl, HS5⟩
          · have hr1 := of_decide_eq_true HBO.out
            have HC5 := Hid.mk' (HREC.out a s mid L' wq (.inl ⟨rfl, rfl⟩) hr1.1 hr1.2 HLN.out HM1.out HM2.out HS3.out)
            clear hr1 HS3
            go_wp2_with fail
            refine HC5.out.mono ?_
            rintro e' w5 ⟨rfl, hS5⟩
            have HS5 := Hid.mk' hS5
            clear hS5 HC5
            go_wp2
            go_meet
            case rel => exact ⟨rfl, HS5⟩
        case rest =>
          obtain ⟨rfl, HS5⟩ := hcut
          clear HS3 HBO
          obtain ⟨L1, hB1, hA1, hSL1⟩ := HS5.out
          have HB1 := Hid.mk' hB1
          have HA1 := Hid.mk' hA1
          have HS4 := Hid.mk' hSL1
          clear hB1 hA1 hSL1 HS5
          by_cases hr2 : mid < en ∧ en < b
          · have z1 : decide (mid < en) = true := by simp; omega
            have z2 : decide (en < b) = true := by simp; omega
            have HC6 := Hid.mk' (HREC.out mid en b L1 wc (.inr ⟨rfl, rfl⟩) hr2.1 hr2.2 (HB1.out.length.trans HLN.out) (HM3.out.out HB1.out (.inr (Nat.le_refl _))) (HM4.out.out HB1.out (.inr (by omega))) HS4.out)
            clear hr2 HREC HS4
            go_wp2_with fail
            refine HC6.out.mono ?_
            rintro e' w6 ⟨rfl, L2, hB2, hS2, hSL2⟩
            have HFIN : Hid (∃ L', Bub c a b L L' ∧ Srt c a b L' ∧ SL w0 blk off L' w6) := ⟨L2, HBU.out.trans ((HB1.out.mono (Nat.le_refl _) (by omega)).trans (hB2.mono (by omega) (Nat.le_refl _))), Srt.both (HA1.out.out hB2 (.inl (Nat.le_refl _))) hS2 (cross_keep HB1.out hB2 HCR.out), hSL2⟩
            clear hB2 hS2 hSL2
            go_wp2
            go_end0
            exact ⟨rfl, HFIN.out⟩
          · have HFIN : Hid (∃ L', Bub c a b L L' ∧ Srt c a b L' ∧ SL w0 blk off L' wc) := by
              have hS2 : Srt c mid b L1 := by
                rcases (by omega : en = mid ∨ en = b) with h | h
                · have := HM4.out.out HB1.out (.inr (by omega)); rwa [h] at this
                · have := HM3.out.out HB1.out (.inr (Nat.le_refl _)); rwa [h] at this
              exact ⟨L1, HBU.out.trans (HB1.out.mono (Nat.le_refl _) (by omega)), Srt.both HA1.out hS2 (cross_keep HB1.out (.refl _) HCR.out), HS4.out⟩
            have hz : decide (mid < en) = false ∨ (decide (mid < en) = true ∧ decide (en < b) = false) := by
              by_cases h : mid < en
              · right; simp; omega
              · left; simp; omega
            clear hr2 HREC HS4
            rcases hz with z1 | ⟨z1, z2⟩
            all_goals
              go_wp2
              go_end0
              exact ⟨rfl, HFIN.out⟩
end Go.Proofs.YtojpkkbagcahdaaDoor
namespace Go.Proofs.YtojpkkbagcahdaaDoor
open Go.RowKit Go.Sort

set_option maxRecDepth 20000 in
set_option maxHeartbeats 16000000 in
theorem symMerge_any (c : Int → Int) (g : Nat) (cb : Array Value) (cf : Int → Int → Int) (hcf : ∀ x y, decide (cf x y < 0) = decide (c x < c y)) (eg : ∀ args w, (callFunc g args).run Tryd.prog w = .ok (.enter g args) w) (w0 : World) (blk off cap : Nat) (L0 : List Int) (R : RL w0 blk off L0) (hcm : CmpL g cb cf blk off L0.length w0) (hs : L0.length ≤ 1073741824) : ∀ (N a m b : Nat) (L : List Int) (w : World), b - a ≤ N → a < m → m < b → b ≤ L.length → L.length = L0.length → Srt c a m L → Srt c m b L → SL w0 blk off L w →
    Calls Tryd.prog 98 #[.slice (some ⟨blk, off, none⟩) L0.length cap, .int .i64 a, .int .i64 m, .int .i64 b, .func (.func g) #[] cb] w fun e w' => e = .returned (.tuple #[]) ∧ ∃ L', Bub c a b L L' ∧ Srt c a b L' ∧ SL w0 blk off L' w' := by
  intro N
  induction N with
  | zero => intro a m b L w h1 h2 h3; omega
  | succ N ih =>
    intro a m b L w hN ham hmb hbl hl h1 h2 S
    by_cases hm1 : m = a + 1
    · exact symLeft_any c g cb cf hcf eg w0 blk off cap L0 R hcm hs a m b L w hm1 hmb hbl hl (by rw [← hm1]; exact h2) S
    by_cases hb1 : b = m + 1
    · exact symRight_any c g cb cf hcf eg w0 blk off cap L0 R hcm hs a m b L w (by omega) hb1 hbl hl h1 S
    obtain ⟨mid, hmid⟩ : ∃ mid, (a + b) / 2 = mid := ⟨_, rfl⟩
    have HREC : (∀ (a' m' b' : Nat) (L : List Int) (w : World), (a' = a ∧ b' = mid ∨ a' = mid ∧ b' = b) → a' < m' → m' < b' → L.length = L0.length → Srt c a' m' L → Srt c m' b' L → SL w0 blk off L w → Calls Tryd.prog 98 #[.slice (some ⟨blk, off, none⟩) L0.length cap, .int .i64 a', .int .i64 m', .int .i64 b', .func (.func g) #[] cb] w fun e w' => e = .returned (.tuple #[]) ∧ ∃ L', Bub c a' b' L L' ∧ Srt c a' b' L' ∧ SL w0 blk off L' w') := fun a' m' b' L' w' hab h3 h4 h5 h6 h7 h8 => ih a' m' b' L' w' (by omega) h3 h4 (by omega) h5 h6 h7 h8
    by_cases hside : mid < m
    · exact symHigh_any c g cb cf hcf eg w0 blk off cap L0 R hcm hs a m b mid L w ham hmb hm1 hb1 hmid hside hbl hl h1 h2 S HREC
    · exact symLow_any c g cb cf hcf eg w0 blk off cap L0 R hcm hs a m b mid L w ham hmb hm1 hb1 hmid (by omega) hbl hl h1 h2 S HREC
end Go.Proofs.YtojpkkbagcahdaaDoor
namespace Go.Proofs
open Go.Shelf
def Tryd.laysIns_ren : Go.Shelf.Ren := ⟨fun | 20 => 97 | n => n, fun | 22 => 24 | 24 => 21 | 25 => 92 | 3 => 3 | 4 => 4 | 0 => 0 | n => n, fun | n => n⟩
theorem Tryd.laysIns : Go.Proofs.SlLaysF.n20 Tryd.prog Tryd.laysIns_ren := {
  mixed := by kernel_rfl
  f20 := ⟨Tryd.f97.name, by decide, Tryd.func97.trans (congrArg some (by kernel_rfl))⟩
  t0 := Tryd.underlying0
  a0 := Tryd.isAgg0
  z0 := Tryd.sizeOf0
  v0 := Tryd.zeroValue0
  t3 := Tryd.underlying3
  a3 := Tryd.isAgg3
  z3 := Tryd.sizeOf3
  v3 := Tryd.zeroValue3
  t4 := Tryd.underlying4
  a4 := Tryd.isAgg4
  z4 := Tryd.sizeOf4
  v4 := Tryd.zeroValue4
  t22 := Tryd.underlying24
  a22 := Tryd.isAgg24
  z22 := Tryd.sizeOf24
  v22 := Tryd.zeroValue24
  a24 := Tryd.isAgg21
  z24 := Tryd.sizeOf21
  t25 := Tryd.underlying92
  a25 := Tryd.isAgg92
  z25 := Tryd.sizeOf92
  v25 := Tryd.zeroValue92 }
end Go.Proofs
namespace Go.Proofs.YtojpkkbagcahdaaDoor
open Go.RowKit Go.Sort

section
variable {c : Int → Int} {cf : Int → Int → Int}
theorem swo_cf (hcf : ∀ x y, decide (cf x y < 0) = decide (c x < c y)) : SWO (ltOf cf) := by
  refine ⟨fun x => ?_, fun x y z h1 h2 => ?_, fun x y z h1 h2 => ?_⟩
  · unfold ltOf; rw [hcf]; simp
  · unfold ltOf at *; rw [hcf] at *; simp at *; omega
  · unfold ltOf at *; rw [hcf] at *; simp at *; omega
theorem swap_next (L : List Int) (j : Nat) (hj : j + 1 < L.length) : ∃ P Q x y, L = P ++ x :: y :: Q ∧ P.length = j ∧ L.getD j 0 = x ∧ L.getD (j + 1) 0 = y ∧ swapL L (j + 1) j = P ++ y :: x :: Q := by
  obtain ⟨P, X, Y, Q, e, hP, hX, hY⟩ := cut4 L (s := j) (m := j + 1) (e := j + 2) (by omega) (by omega) (by omega)
  obtain ⟨x, rfl⟩ : ∃ x, X = [x] := List.length_eq_one_iff.1 (by omega)
  obtain ⟨y, rfl⟩ : ∃ y, Y = [y] := List.length_eq_one_iff.1 (by omega)
  have e' : L = P ++ x :: ([] ++ y :: Q) := by rw [e]; simp
  obtain ⟨g1, g2⟩ := getD_two P [] Q x y
  have g3 := swapL_two P [] Q x y
  rw [← e'] at g1 g2 g3
  rw [hP] at g1 g2 g3
  refine ⟨P, Q, x, y, by simpa using e', hP, g1, by simpa using g2, ?_⟩
  have : swapL L (j + 1) j = swapL L j (j + 1) := by
    unfold swapL
    rw [List.set_comm _ _ (by omega : j + 1 ≠ j)]
  rw [this]
  simpa using g3
theorem insInner_bub (hcf : ∀ x y, decide (cf x y < 0) = decide (c x < c y)) (a b : Nat) : ∀ (j : Nat) (L : List Int), j < b → b ≤ L.length → ∃ L', insInner (ltOf cf) a j L.toArray = L'.toArray ∧ Bub c a b L L' := by
  intro j
  induction j with
  | zero => intro L _ _; exact ⟨L, rfl, .refl _⟩
  | succ j ih =>
    intro L hj hb
    rw [insInner]
    split
    · rename_i h
      rw [Bool.and_eq_true, decide_eq_true_eq, arr_get, arr_get] at h
      obtain ⟨P, Q, x, y, e, hP, g1, g2, g3⟩ := swap_next L j (by omega)
      have hlt : c y < c x := by
        have := h.2
        unfold ltOf at this
        rw [hcf, decide_eq_true_eq, g1, g2] at this
        exact this
      have hB : Bub c a b L (swapL L (j + 1) j) := by
        rw [g3]
        conv => lhs; rw [e]
        exact .step P Q x y _ (by omega) (by omega) hlt (.refl _)
      rw [swp_toArray]
      obtain ⟨L', h1, h2⟩ := ih (swapL L (j + 1) j) (by omega) (by rw [swapL_length]; omega)
      exact ⟨L', h1, hB.trans h2⟩
    · exact ⟨L, rfl, .refl _⟩
theorem insOuter_bub (hcf : ∀ x y, decide (cf x y < 0) = decide (c x < c y)) (a b : Nat) : ∀ (n i : Nat) (L : List Int), b - i ≤ n → b ≤ L.length → ∃ L', insOuter (ltOf cf) a b i L.toArray = L'.toArray ∧ Bub c a b L L' := by
  intro n
  induction n with
  | zero =>
    intro i L hn hb
    rw [insOuter, if_neg (by omega)]
    exact ⟨L, rfl, .refl _⟩
  | succ n ih =>
    intro i L hn hb
    by_cases h : i < b
    · rw [insOuter, if_pos h]
      obtain ⟨L1, h1, h2⟩ := insInner_bub hcf a b i L h hb
      rw [h1]
      obtain ⟨L2, h3, h4⟩ := ih (i + 1) L1 (by omega) (by rw [h2.length]; exact hb)
      exact ⟨L2, h3, h2.trans h4⟩
    · rw [insOuter, if_neg h]
      exact ⟨L, rfl, .refl _⟩
theorem insertion_list (hcf : ∀ x y, decide (cf x y < 0) = decide (c x < c y)) (a b : Nat) (L : List Int) (hab : a ≤ b) (hb : b ≤ L.length) : ∃ L', insertionSort (ltOf cf) L.toArray a b = L'.toArray ∧ Bub c a b L L' ∧ Srt c a b L' := by
  obtain ⟨L', h1, h2⟩ := insOuter_bub hcf a b (b - (a + 1)) (a + 1) L (by omega) hb
  refine ⟨L', h1, h2, fun i j hi hij hj => ?_⟩
  have := (insertionSort_holds (lt := ltOf cf) (swo_cf hcf) L.toArray a b hab (by simpa using hb)).2 i j hi hij hj
  unfold insertionSort at this
  rw [h1, arr_get, arr_get] at this
  unfold ltOf at this
  rw [hcf, decide_eq_false_iff_not] at this
  omega
theorem insertion_any (hcf : ∀ x y, decide (cf x y < 0) = decide (c x < c y)) (g : Nat) (cb : Array Value) (eg : ∀ args w, (callFunc g args).run Tryd.prog w = .ok (.enter g args) w) (w0 : World) (blk off cap : Nat) (L0 : List Int) (R : RL w0 blk off L0) (hcm : CmpL g cb cf blk off L0.length w0) (hs : L0.length ≤ 1073741824) (a b : Nat) (L : List Int) (w : World) (hab : a ≤ b) (hb : b ≤ L.length) (hl : L.length = L0.length) (S : SL w0 blk off L w) :
    Calls Tryd.prog 97 #[.slice (some ⟨blk, off, none⟩) L0.length cap, .int .i64 a, .int .i64 b, .func (.func g) #[] cb] w fun e w' => e = .returned (.tuple #[]) ∧ ∃ L', Bub c a b L L' ∧ Srt c a b L' ∧ SL w0 blk off L' w' := by
  have h := Any.insertionSortCmpFunc_s Tryd.laysIns (Value.int .i32) cf g cb blk off cap a b L0.toArray L.toArray w0 w eg (by rw [List.size_toArray]; exact hcm) R (by simpa using hl.symm) S hab (by simpa using hb) (by simp; omega)
  rw [List.size_toArray, hl] at h
  refine Calls.mono h ?_
  rintro e w' ⟨rfl, hS⟩
  obtain ⟨L', h1, h2, h3⟩ := insertion_list hcf a b L hab hb
  rw [h1] at hS
  exact ⟨rfl, L', h2, h3, hS⟩
variable (c)
/-- from the start on, as far as a, runs of s runes, each in order -/
inductive RT (s : Nat) (L : List Int) : Nat → Prop
  | zero : RT s L 0
  | step (a : Nat) (h : RT s L a) (hs : Srt c a (a + s) L) : RT s L (a + s)
/-- from a on, as far as n, runs of s runes, each in order -/
def Runs (n s : Nat) (L : List Int) : Nat → Nat → Prop
  | 0, a => n ≤ a
  | f + 1, a => n ≤ a ∨ (Srt c a (min (a + s) n) L ∧ Runs n s L f (a + s))
variable {c}
theorem RT.out {s a a' b' : Nat} {L L' : List Int} (h : RT c s L a) (hb : Bub c a' b' L L') (ha : a ≤ a') : RT c s L' a := by
  induction h with
  | zero => exact .zero
  | step a _ hs ih => exact .step a (ih (by omega)) (hs.out hb (.inl ha))
theorem Runs.out {n s a' b' : Nat} {L L' : List Int} (hb : Bub c a' b' L L') : ∀ (f a : Nat), Runs c n s L f a → b' ≤ a → Runs c n s L' f a := by
  intro f
  induction f with
  | zero => intro a h _; exact h
  | succ f ih =>
    intro a h ha
    rcases h with h | ⟨h1, h2⟩
    · exact .inl h
    · exact .inr ⟨h1.out hb (.inr ha), ih _ h2 (by omega)⟩
theorem RT.runs {n s a : Nat} {L : List Int} (h : RT c s L a) : ∀ f, Runs c n s L f a → ∃ f', Runs c n s L f' 0 := by
  induction h with
  | zero => intro f hf; exact ⟨f, hf⟩
  | step a _ hs ih =>
    intro f hf
    refine ih (f + 1) ?_
    rcases Nat.lt_or_ge a n with g | g
    · exact .inr ⟨fun i j h1 h2 h3 => hs i j h1 h2 (by omega), hf⟩
    · exact .inl g
theorem RT.whole {n s a : Nat} {L : List Int} (h : RT c s L a) (ha : a ≤ n) (hs : n ≤ s) (ht : Srt c a n L) : Srt c 0 n L := by
  cases h with
  | zero => exact ht
  | step a h hs' =>
    obtain rfl : a = 0 := by omega
    obtain rfl : n = 0 + s := by omega
    exact hs'
end
end Go.Proofs.YtojpkkbagcahdaaDoor
namespace Go.Proofs.YtojpkkbagcahdaaDoor
open Go.RowKit Go.Sort

section
variable {c : Int → Int}
theorem Runs.two {n s f a : Nat} {L : List Int} (h : Runs c n s L f a) (hs : 0 < s) (hb : a + s + s ≤ n) : ∃ f', Srt c a (a + s) L ∧ Srt c (a + s) (a + s + s) L ∧ Runs c n s L f' (a + s + s) := by
  cases f with
  | zero => exact absurd h (by show ¬ n ≤ a; omega)
  | succ f =>
    rcases h with h | ⟨h1, h2⟩
    · omega
    · rw [Nat.min_eq_left (by omega)] at h1
      cases f with
      | zero => exact absurd h2 (by show ¬ n ≤ a + s; omega)
      | succ f =>
        rcases h2 with h | ⟨h3, h4⟩
        · omega
        · rw [Nat.min_eq_left (by omega)] at h3
          exact ⟨f, h1, h3, h4⟩
theorem Runs.last {n s f a : Nat} {L : List Int} (h : Runs c n s L f a) (hb : n < a + s + s) (hm : a + s < n) : Srt c a (a + s) L ∧ Srt c (a + s) n L := by
  cases f with
  | zero => exact absurd h (by show ¬ n ≤ a; omega)
  | succ f =>
    rcases h with h | ⟨h1, h2⟩
    · omega
    · rw [Nat.min_eq_left (by omega)] at h1
      cases f with
      | zero => exact absurd h2 (by show ¬ n ≤ a + s; omega)
      | succ f =>
        rcases h2 with h | ⟨h3, h4⟩
        · omega
        · rw [Nat.min_eq_right (by omega)] at h3
          exact ⟨h1, h3⟩
theorem Runs.end {n s f a : Nat} {L : List Int} (h : Runs c n s L f a) (hm : n ≤ a + s) : Srt c a n L := by
  cases f with
  | zero => intro i j h1 h2 h3; have : n ≤ a := h; omega
  | succ f =>
    rcases h with h | ⟨h1, h2⟩
    · intro i j h1 h2 h3; omega
    · rwa [Nat.min_eq_right hm] at h1
theorem RT.start {n s a : Nat} {L : List Int} (h : RT c s L a) (ht : Srt c a n L) (hs : n ≤ a + s) : ∃ f, Runs c n s L f 0 :=
  h.runs 1 (.inr ⟨by rw [Nat.min_eq_right hs]; exact ht, by show n ≤ a + s; omega⟩)
end
set_option maxRecDepth 20000 in
set_option maxHeartbeats 8000000 in
theorem stable_any (c : Int → Int) (g : Nat) (cb : Array Value) (cf : Int → Int → Int) (hcf : ∀ x y, decide (cf x y < 0) = decide (c x < c y)) (eg : ∀ args w, (callFunc g args).run Tryd.prog w = .ok (.enter g args) w) (w0 : World) (blk off cap : Nat) (L0 : List Int) (R : RL w0 blk off L0) (hcm : CmpL g cb cf blk off L0.length w0) (hs : L0.length ≤ 268435456) (w : World) (S : SL w0 blk off L0 w) :
    Calls Tryd.prog 79 #[.slice (some ⟨blk, off, none⟩) L0.length cap, .int .i64 L0.length, .func (.func g) #[] cb] w fun e w' => e = .returned (.tuple #[]) ∧ ∃ L', Bub c 0 L0.length L0 L' ∧ Srt c 0 L0.length L' ∧ SL w0 blk off L' w' := by
  have HIN : Hid (∀ (a b : Nat) (L : List Int) (W : World), a ≤ b → b ≤ L0.length → L.length = L0.length → SL w0 blk off L W → _) := fun a b L W h1 h2 h3 h4 => insertion_any hcf g cb eg w0 blk off cap L0 R hcm (by omega) a b L W h1 (by omega) h3 h4
  have HSM : Hid (∀ (a m b : Nat) (L : List Int) (W : World), a < m → m < b → b ≤ L0.length → L.length = L0.length → Srt c a m L → Srt c m b L → SL w0 blk off L W → _) := fun a m b L W h1 h2 h3 h4 h5 h6 h7 => symMerge_any c g cb cf hcf eg w0 blk off cap L0 R hcm (by omega) (b - a) a m b L W (Nat.le_refl _) h1 h2 (by omega) h4 h5 h6 h7
  have S0 := Hid.mk' S
  obtain ⟨n, hn⟩ : ∃ n, L0.length = n := ⟨_, rfl⟩
  have HN := Hid.mk' hn
  rw [hn] at hs HIN HSM ⊢
  clear R hcm hcf S hn
  go_enter Tryd.func79, Tryd.ntmps79
  go_wp2
  go_loopw [7, 8] (fun x y wr => ∃ a b : Nat, x = .int .i64 a ∧ y = .int .i64 b ∧ a ≤ n ∧ b = a + 20 ∧ Hid (∃ L, L.length = n ∧ Bub c 0 n L0 L ∧ RT c 20 L a ∧ SL w0 blk off L wr)) (fun _ y _ => n + 20 - (intOf y).toNat)
  case atStart => exact ⟨0, 20, rfl, rfl, Nat.zero_le _, rfl, L0, HN.out, .refl _, .zero, S0.out⟩
  case round =>
    obtain ⟨a, b, rfl, rfl, han, hab, hI⟩ := hrel
    clear S0
    have HAB := Hid.mk' hab
    by_cases hlt : b ≤ n
    · have hbz : (b : Int) ≤ (n : Int) := by omega
      have HC : Hid (Calls Tryd.prog 97 #[.slice (some ⟨blk, off, none⟩) n cap, .int .i64 a, .int .i64 b, .func (.func g) #[] cb] wr fun e w' => e = .returned (.tuple #[]) ∧ Hid (∃ L, L.length = n ∧ Bub c 0 n L0 L ∧ RT c 20 L b ∧ SL w0 blk off L w')) := by
        obtain ⟨L, h1, h2, h3, h4⟩ := hI.out
        refine (HIN.out a b L wr (by omega) hlt h1 h4).mono ?_
        rintro e w' ⟨he, L', q1, q2, q3⟩
        refine ⟨he, L', q1.length.trans h1, h2.trans (q1.mono (Nat.zero_le _) hlt), ?_, q3⟩
        rw [HAB.out] at q1 q2 ⊢
        exact .step a (h3.out q1 (Nat.le_refl _)) q2
      have hnb : b + 20 ≤ 1073741824 := by omega
      clear hI hab HIN HSM
      go_wp2_with fail
      refine HC.out.mono ?_
      rintro e w2 ⟨rfl, hI⟩
      go_wp2
      go_roundw
      case rel => exact ⟨b, b + 20, rfl, by go_num, hlt, rfl, hI⟩
      case measure => simp [intOf]; omega
    · have hbd : decide (b ≤ n) = false := by simp; omega
      have HC : Hid (Calls Tryd.prog 97 #[.slice (some ⟨blk, off, none⟩) n cap, .int .i64 a, .int .i64 n, .func (.func g) #[] cb] wr fun e w' => e = .returned (.tuple #[]) ∧ Hid (∃ L a, L.length = n ∧ Bub c 0 n L0 L ∧ RT c 20 L a ∧ Srt c a n L ∧ a ≤ n ∧ n ≤ a + 20 ∧ SL w0 blk off L w')) := by
        obtain ⟨L, h1, h2, h3, h4⟩ := hI.out
        refine (HIN.out a n L wr han (Nat.le_refl _) h1 h4).mono ?_
        rintro e w' ⟨he, L', q1, q2, q3⟩
        have := HAB.out
        exact ⟨he, L', a, q1.length.trans h1, h2.trans (q1.mono (Nat.zero_le _) (Nat.le_refl _)), h3.out q1 (Nat.le_refl _), q2, han, by omega, q3⟩
      clear hI hab HIN HAB
      go_wp2_with fail
      refine HC.out.mono ?_
      rintro e w2 ⟨rfl, hI⟩
      clear HC
      go_wp2
      go_loopw [6] (fun x wr => ∃ s : Nat, x = .int .i64 s ∧ 0 < s ∧ s ≤ 2 * n + 20 ∧ Hid (∃ L a, L.length = n ∧ Bub c 0 n L0 L ∧ RT c s L a ∧ Srt c a n L ∧ a ≤ n ∧ n ≤ a + s ∧ SL w0 blk off L wr)) (fun x _ => n - (intOf x).toNat)
      case atStart => exact ⟨20, rfl, by omega, by omega, hI⟩
      case round =>
        obtain ⟨s, rfl, hs0, hsn, hI⟩ := hrel
        by_cases hlt : s < n
        · obtain ⟨s2, hs2⟩ : ∃ s2 : Nat, (2 : Int) * (s : Int) = s2 := ⟨2 * s, by omega⟩
          have hsz : (s : Int) < (n : Int) := by omega
          have hs2w : s2 ≤ 1073741824 := by omega
          have HS2 : Hid (s2 = s + s) := by show _ = _; omega
          go_wp2
          go_loopw [7, 8] (fun x y wr => ∃ a b : Nat, x = .int .i64 a ∧ y = .int .i64 b ∧ a ≤ n ∧ b = a + s2 ∧ Hid (∃ L f, L.length = n ∧ Bub c 0 n L0 L ∧ RT c s2 L a ∧ Runs c n s L f a ∧ SL w0 blk off L wr)) (fun _ y _ => n + s2 - (intOf y).toNat)
          case atStart =>
            obtain ⟨L, a, h1, h2, h3, h4, h5, h6, h7⟩ := hI.out
            obtain ⟨f, hf⟩ := h3.start h4 h6
            exact ⟨0, s2, rfl, rfl, Nat.zero_le _, by omega, L, f, h1, h2, .zero, hf, h7⟩
          case round =>
            clear hI
            obtain ⟨a, b, rfl, rfl, han, hab, hI⟩ := hrel
            have HAB := Hid.mk' hab
            obtain ⟨m, hm⟩ : ∃ m : Nat, (a : Int) + (s : Int) = m := ⟨a + s, by omega⟩
            by_cases hle : b ≤ n
            · have hbz : (b : Int) ≤ (n : Int) := by omega
              have HC : Hid (Calls Tryd.prog 98 #[.slice (some ⟨blk, off, none⟩) n cap, .int .i64 a, .int .i64 m, .int .i64 b, .func (.func g) #[] cb] wr fun e w' => e = .returned (.tuple #[]) ∧ Hid (∃ L f, L.length = n ∧ Bub c 0 n L0 L ∧ RT c s2 L b ∧ Runs c n s L f b ∧ SL w0 blk off L w')) := by
                obtain ⟨L, f, h1, h2, h3, h4, h5⟩ := hI.out
                have e2 := HS2.out
                have e3 := HAB.out
                obtain ⟨f', q1, q2, q3⟩ := h4.two hs0 (by omega)
                rw [show a + s = m by omega] at q1 q2 q3
                rw [show m + s = b by omega] at q2 q3
                refine (HSM.out a m b L wr (by omega) (by omega) hle h1 q1 q2 h5).mono ?_
                rintro e w' ⟨he, L', p1, p2, p3⟩
                refine ⟨he, L', f', p1.length.trans h1, h2.trans (p1.mono (Nat.zero_le _) hle), ?_, Runs.out p1 _ _ q3 (Nat.le_refl _), p3⟩
                rw [e3] at p1 p2 ⊢
                exact .step a (h3.out p1 (Nat.le_refl _)) p2
              have hmw : m ≤ 1073741824 := by omega
              have hbw : b + s2 ≤ 2147483648 := by omega
              clear hI hab HSM
              go_wp2_with fail
              refine HC.out.mono ?_
              rintro e w3 ⟨rfl, hI⟩
              go_wp2
              go_roundw
              case rel => exact ⟨b, b + s2, rfl, by go_num, hle, rfl, hI⟩
              case measure => simp [intOf]; omega
            · have hbd : decide (b ≤ n) = false := by simp; omega
              obtain ⟨s3, hs3⟩ : ∃ s3 : Nat, (s : Int) * 2 = s3 := ⟨s * 2, by omega⟩
              have hs3w : s3 ≤ 1073741824 := by omega
              have hs33 : s3 ≤ 2 * n + 20 := by omega
              have hs30 : 0 < s3 := by omega
              have HS3 : Hid (s3 = s2 ∧ s < s3) := ⟨by have := HS2.out; omega, by omega⟩
              have hmw : m ≤ 1073741824 := by omega
              by_cases hmn : m < n
              · have HC : Hid (Calls Tryd.prog 98 #[.slice (some ⟨blk, off, none⟩) n cap, .int .i64 a, .int .i64 m, .int .i64 n, .func (.func g) #[] cb] wr fun e w' => e = .returned (.tuple #[]) ∧ Hid (∃ L a, L.length = n ∧ Bub c 0 n L0 L ∧ RT c s3 L a ∧ Srt c a n L ∧ a ≤ n ∧ n ≤ a + s3 ∧ SL w0 blk off L w')) := by
                  obtain ⟨L, f, h1, h2, h3, h4, h5⟩ := hI.out
                  have e2 := HS2.out
                  have e3 := HAB.out
                  have e4 := HS3.out.1
                  obtain ⟨q1, q2⟩ := h4.last (by omega) (by omega)
                  rw [show a + s = m by omega] at q1 q2
                  refine (HSM.out a m n L wr (by omega) hmn (Nat.le_refl _) h1 q1 q2 h5).mono ?_
                  rintro e w' ⟨he, L', p1, p2, p3⟩
                  rw [e4]
                  exact ⟨he, L', a, p1.length.trans h1, h2.trans (p1.mono (Nat.zero_le _) (Nat.le_refl _)), h3.out p1 (Nat.le_refl _), p2, han, by omega, p3⟩
                have hmz : (m : Int) < (n : Int) := by omega
                clear hI hab HAB
                go_wp2_with fail
                refine HC.out.mono ?_
                rintro e w3 ⟨rfl, hI⟩
                go_wp2
                go_roundw
                case rel => exact ⟨s3, rfl, hs30, hs33, hI⟩
                case measure => simp [intOf]; have := HS3.out; omega
              · have hI2 : Hid (∃ L a, L.length = n ∧ Bub c 0 n L0 L ∧ RT c s3 L a ∧ Srt c a n L ∧ a ≤ n ∧ n ≤ a + s3 ∧ SL w0 blk off L wr) := by
                  obtain ⟨L, f, h1, h2, h3, h4, h5⟩ := hI.out
                  have e4 := HS3.out.1
                  rw [e4]
                  exact ⟨L, a, h1, h2, h3, h4.end (by omega), han, by have := HAB.out; omega, h5⟩
                have hmd : decide (m < n) = false := by simp; omega
                clear hI hab HAB
                go_wp2
                go_roundw
                case rel => exact ⟨s3, rfl, hs30, hs33, hI2⟩
                case measure => simp [intOf]; have := HS3.out; omega
        · have hsd : decide (s < n) = false := by simp; omega
          have HFIN : Hid (∃ L', Bub c 0 n L0 L' ∧ Srt c 0 n L' ∧ SL w0 blk off L' wr) := by
            obtain ⟨L, a, h1, h2, h3, h4, h5, h6, h7⟩ := hI.out
            exact ⟨L, h2, h3.whole h5 (by omega) h4, h7⟩
          clear hI HSM
          go_wp2
          go_end0
          exact ⟨rfl, HFIN.out⟩
set_option maxHeartbeats 1000000 in
theorem sortStable_any (c : Int → Int) (g : Nat) (cb : Array Value) (cf : Int → Int → Int) (hcf : ∀ x y, decide (cf x y < 0) = decide (c x < c y)) (eg : ∀ args w, (callFunc g args).run Tryd.prog w = .ok (.enter g args) w) (w : World) (blk off cap : Nat) (L0 : List Int) (R : RL w blk off L0) (hcm : CmpL g cb cf blk off L0.length w) (hs : L0.length ≤ 268435456) (S : SL w blk off L0 w) :
    Calls Tryd.prog 61 #[.slice (some ⟨blk, off, none⟩) L0.length cap, .func (.func g) #[] cb] w fun e w' => e = .returned (.tuple #[]) ∧ ∃ L', Bub c 0 L0.length L0 L' ∧ Srt c 0 L0.length L' ∧ SL w blk off L' w' := by
  have HC := Hid.mk' (stable_any c g cb cf hcf eg w blk off cap L0 R hcm hs w S)
  clear R hcm S hcf
  generalize L0.length = n at *
  go_enter Tryd.func61, Tryd.ntmps61
  go_wp2_with fail
  refine HC.out.mono ?_
  rintro e w1 ⟨rfl, hS⟩
  have HS := Hid.mk' hS
  clear hS
  go_wp2
  go_end0
  exact ⟨rfl, HS.out⟩
end Go.Proofs.YtojpkkbagcahdaaDoor

/-
  What is proved here: plain mathematics of Punycode (no program): the order in which runes are put in, who encodes.
-/
import Derived.Test.YtockmkcoehepiaaDoorY0
namespace Go.Proofs.YtockmkcoehepiaaDoor

/-- the rune of a number -/
def rn (l : List Int) (k : Int) : Int := l.getD k.toNat 0
/-- the numbers of the runes that aren't plain -/
def idxM (l : List Int) : List Int := ((List.range l.length).filter (fun k => decide (128 ≤ l.getD k 0))).map Int.ofNat
/-- the one stands ahead of the other: the lesser rune, of alike ones the one to the left -/
def lexLt (l : List Int) (a b : Int) : Prop := rn l a < rn l b ∨ (rn l a = rn l b ∧ a < b)
instance (l : List Int) (a b : Int) : Decidable (lexLt l a b) := by unfold lexLt; infer_instance
theorem idx_mem {l : List Int} {k : Int} : k ∈ idxM l ↔ 0 ≤ k ∧ k < l.length ∧ 128 ≤ rn l k := by
  unfold idxM rn
  rw [List.mem_map]
  constructor
  · rintro ⟨j, hj, rfl⟩
    rw [List.mem_filter, List.mem_range] at hj
    simp at hj ⊢
    exact hj
  · rintro ⟨h0, h1, h2⟩
    refine ⟨k.toNat, ?_, by simp; omega⟩
    rw [List.mem_filter, List.mem_range]
    simp at h2 ⊢
    exact ⟨by omega, h2⟩
theorem idx_up (l : List Int) : (idxM l).Pairwise (· < ·) := by
  unfold idxM
  rw [List.pairwise_map]
  refine List.Pairwise.imp ?_ (List.Pairwise.filter _ List.pairwise_lt_range)
  intro a b h
  exact Int.ofNat_lt.2 h
/-- two rows that rise have the same members: they are the same -/
theorem rise_unique {lt : Int → Int → Prop} (irr : ∀ a, ¬ lt a a) (asy : ∀ a b, lt a b → ¬ lt b a) : ∀ (x y : List Int), x.Pairwise lt → y.Pairwise lt → (∀ a, a ∈ x ↔ a ∈ y) → x = y := by
  intro x
  induction x with
  | nil =>
    intro y _ _ h
    cases y with
    | nil => rfl
    | cons b y => exact absurd ((h b).2 (by simp)) (by simp)
  | cons a x ih =>
    intro y hx hy h
    cases y with
    | nil => exact absurd ((h a).1 (by simp)) (by simp)
    | cons b y =>
      rw [List.pairwise_cons] at hx hy
      have hab : a = b := by
        rcases List.mem_cons.1 ((h a).1 (by simp)) with e | e
        · exact e
        · rcases List.mem_cons.1 ((h b).2 (by simp)) with e' | e'
          · exact e'.symm
          · exact absurd (hy.1 a e) (asy _ _ (hx.1 b e'))
      subst hab
      congr 1
      refine ih y hx.2 hy.2 (fun c => ?_)
      constructor
      · intro hc
        rcases List.mem_cons.1 ((h c).1 (by simp [hc])) with e | e
        · subst e; exact absurd (hx.1 c hc) (irr c)
        · exact e
      · intro hc
        rcases List.mem_cons.1 ((h c).2 (by simp [hc])) with e | e
        · subst e; exact absurd (hy.1 c hc) (irr c)
        · exact e
theorem lex_irr (l : List Int) (a : Int) : ¬ lexLt l a a := by unfold lexLt; omega
theorem lex_asy (l : List Int) (a b : Int) : lexLt l a b → ¬ lexLt l b a := by unfold lexLt; omega
theorem lex_trans (l : List Int) {a b c : Int} (h : lexLt l a b) (h' : lexLt l b c) : lexLt l a c := by unfold lexLt at *; omega
/-- the numbers of the runes that aren't plain, in the order in which they are put in -/
def IsOrd (l O : List Int) : Prop := O.Perm (idxM l) ∧ O.Pairwise (lexLt l)
theorem isOrd_unique {l O O' : List Int} (h : IsOrd l O) (h' : IsOrd l O') : O = O' :=
  rise_unique (lex_irr l) (lex_asy l) O O' h.2 h'.2 (fun a => by rw [h.1.mem_iff, h'.1.mem_iff])
def leB (l : List Int) (a b : Int) : Bool := decide (rn l a < rn l b ∨ (rn l a = rn l b ∧ a ≤ b))
def ordM (l : List Int) : List Int := (idxM l).mergeSort (leB l)
theorem pw_and {α : Type} {R S : α → α → Prop} {l : List α} (h : l.Pairwise R) (h' : l.Pairwise S) : l.Pairwise (fun a b => R a b ∧ S a b) := by
  induction l with
  | nil => exact .nil
  | cons a l ih =>
    rw [List.pairwise_cons] at *
    exact ⟨fun b hb => ⟨h.1 b hb, h'.1 b hb⟩, ih h.2 h'.2⟩
theorem ord_is (l : List Int) : IsOrd l (ordM l) := by
  refine ⟨List.mergeSort_perm _ _, ?_⟩
  have h1 : (ordM l).Pairwise (fun a b => leB l a b = true) := List.pairwise_mergeSort (by intro a b c h1 h2; simp [leB] at *; omega) (by intro a b; simp [leB]; omega) _
  have h2 : (ordM l).Nodup := ((List.mergeSort_perm _ _).nodup_iff).2 ((idx_up l).imp (fun h => by omega))
  refine (pw_and h1 h2).imp ?_
  rintro a b ⟨ha, hb⟩
  simp [leB] at ha
  unfold lexLt
  omega
theorem ord_mem {l : List Int} {k : Int} : k ∈ ordM l ↔ 0 ≤ k ∧ k < l.length ∧ 128 ≤ rn l k := by rw [(ord_is l).1.mem_iff, idx_mem]
/-- how many runes are there ahead of the k-th when it is put in -/
def aheadM (l : List Int) (k : Nat) : Nat := (l.take k).countP (fun x => decide (x ≤ l.getD k 0))
theorem ahead_le (l : List Int) (k : Nat) : aheadM l k ≤ k := by
  unfold aheadM
  exact Nat.le_trans List.countP_le_length (List.length_take_le _ _)
def plainM (l : List Int) : List Int := l.filter (fun x => decide (x < 128))
theorem range_map (l : List Int) : (List.range l.length).map (fun k => l.getD k 0) = l := by
  apply List.ext_getElem
  · simp
  · intro i h1 h2
    simp [List.getD, h2]
theorem take_range (l : List Int) (k : Nat) (hk : k ≤ l.length) : (List.range k).map (fun j => l.getD j 0) = l.take k := by
  apply List.ext_getElem
  · simp; omega
  · intro i h1 h2
    simp at h1
    simp [List.getD, show i < l.length by omega]
theorem plain_len (l : List Int) : (plainM l).length = (List.range l.length).countP (fun k => decide (l.getD k 0 < 128)) := by
  unfold plainM
  rw [← List.countP_eq_length_filter]
  conv => lhs; rw [← range_map l]
  rw [List.countP_map]
  rfl
theorem ahead_range (l : List Int) (k : Nat) (hk : k ≤ l.length) : aheadM l k = (List.range k).countP (fun j => decide (l.getD j 0 ≤ l.getD k 0)) := by
  unfold aheadM
  rw [← take_range l k hk, List.countP_map]
  rfl
theorem countP_add {α : Type} (p q r : α → Bool) (l : List α) (h : ∀ a ∈ l, r a = true → p a = true ∨ q a = true) : l.countP r ≤ l.countP p + l.countP q := by
  induction l with
  | nil => simp
  | cons a l ih =>
    have := ih (fun b hb => h b (by simp [hb]))
    have h1 := h a (by simp)
    simp only [List.countP_cons]
    cases hr : r a <;> cases hp : p a <;> cases hq : q a <;> simp [hr, hp, hq] at h1 ⊢ <;> omega
/-- those that are put in ahead of a rune, and the plain ones: no more are there ahead of it -/
theorem ahead_present {l P S : List Int} {k : Int} (h : ordM l = P ++ k :: S) : aheadM l k.toNat ≤ (plainM l).length + P.length := by
  have hk := (ord_mem (l := l) (k := k)).1 (by rw [h]; simp)
  have hpw := (ord_is l).2
  rw [h, List.pairwise_append, List.pairwise_cons] at hpw
  have hP : P.length = (ordM l).countP (fun j => decide (lexLt l j k)) := by
    rw [h, List.countP_append, List.countP_cons]
    have e1 : P.countP (fun j => decide (lexLt l j k)) = P.length := List.countP_eq_length.2 (fun a ha => by simpa using hpw.2.2 a ha k (by simp))
    have e2 : S.countP (fun j => decide (lexLt l j k)) = 0 := List.countP_eq_zero.2 (fun a ha => by simpa using lex_asy l _ _ (hpw.2.1.1 a ha))
    rw [e1, e2, if_neg (by simpa using lex_irr l k)]
    omega
  have hO : (ordM l).countP (fun j => decide (lexLt l j k)) = (List.range l.length).countP (fun j => decide (128 ≤ l.getD j 0) && decide (lexLt l (Int.ofNat j) k)) := by
    rw [(ord_is l).1.countP_eq]
    unfold idxM
    rw [List.countP_map, List.countP_filter]
    congr 1
    funext j
    simp [Bool.and_comm]
  rw [hP, hO, plain_len, ahead_range l k.toNat (by omega)]
  refine Nat.le_trans ?_ (countP_add (fun j => decide (l.getD j 0 < 128)) (fun j => decide (128 ≤ l.getD j 0) && decide (lexLt l (Int.ofNat j) k)) (fun j => decide (j < k.toNat) && decide (l.getD j 0 ≤ l.getD k.toNat 0)) (List.range l.length) ?_)
  · have hs : (List.range k.toNat).countP (fun j => decide (l.getD j 0 ≤ l.getD k.toNat 0)) = (List.range k.toNat).countP (fun j => decide (j < k.toNat) && decide (l.getD j 0 ≤ l.getD k.toNat 0)) := by
      refine List.countP_congr (fun j hj => ?_)
      have := List.mem_range.1 hj
      simp [this]
    rw [hs]
    refine List.Sublist.countP_le ?_
    exact List.range_sublist.2 (by omega)
  · intro j hj hr
    simp [lexLt, rn] at hr ⊢
    omega
theorem ahead_next {l : List Int} {k' k : Nat} (h : k' < k) (hk : k ≤ l.length) (e : l.getD k' 0 = l.getD k 0) : aheadM l k' + 1 ≤ aheadM l k := by
  rw [ahead_range l k' (by omega), ahead_range l k hk, e]
  have : (List.range (k' + 1)).countP (fun j => decide (l.getD j 0 ≤ l.getD k 0)) ≤ (List.range k).countP (fun j => decide (l.getD j 0 ≤ l.getD k 0)) := List.Sublist.countP_le (List.range_sublist.2 (by omega))
  rw [List.range_succ, List.countP_append] at this
  simp only [List.countP_singleton] at this
  rw [e] at this
  simpa using this
/-- who encodes: the present place, how many runes are there, the bias, whether no number was told yet, what is written -/
structure Est where
  n : Int
  i : Int
  m : Int
  bias : Int
  first : Bool
  out : List Int
def startE (l : List Int) : Est := ⟨128, 0, (plainM l).length, 72, true, if (plainM l).length = 0 then plainM l else plainM l ++ [45]⟩
/-- a rune's number -/
def numE (s : Est) (r a : Int) : Int := (r - s.n) * (s.m + 1) + a - s.i
/-- a rune is put in, ahead of the a-th -/
def putE (s : Est) (r a : Int) : Est := ⟨r, a + 1, s.m + 1, biasM (numE s r a) (s.m + 1) s.first, false, s.out ++ digM (numE s r a) s.bias⟩
def stepE (l : List Int) (s : Est) (k : Int) : Est := putE s (rn l k) (aheadM l k.toNat)
def afterE (l P : List Int) : Est := P.foldl (stepE l) (startE l)
theorem after_snoc (l P : List Int) (k : Int) : afterE l (P ++ [k]) = stepE l (afterE l P) k := by unfold afterE; rw [List.foldl_append]; rfl
def encM (l : List Int) : List Int := (afterE l (ordM l)).out
/-- what holds of who encodes -/
structure EOk (s : Est) : Prop where
  n0 : 128 ≤ s.n
  n1 : s.n ≤ 1114111
  i0 : 0 ≤ s.i
  i1 : s.i ≤ s.m
  m1 : s.m ≤ 120
  b0 : 0 ≤ s.bias
  b1 : s.bias ≤ 215
theorem num_bd {s : Est} (h : EOk s) {r a : Int} (hr : s.n ≤ r) (hr1 : r ≤ 1114111) (ha : 0 ≤ a) (ha1 : a ≤ s.m) (hn : s.n < r ∨ s.i ≤ a) : 0 ≤ numE s r a ∧ numE s r a ≤ 2147483647 := by
  obtain ⟨n0, n1, i0, i1, m1, b0, b1⟩ := h
  unfold numE
  have e1 : (r - s.n) * (s.m + 1) ≤ 1114111 * (s.m + 1) := Int.mul_le_mul_of_nonneg_right (by omega) (by omega)
  have e2 : 0 ≤ (r - s.n) * (s.m + 1) := Int.mul_nonneg (by omega) (by omega)
  refine ⟨?_, by omega⟩
  rcases hn with hn | hn
  · have e3 : 1 * (s.m + 1) ≤ (r - s.n) * (s.m + 1) := Int.mul_le_mul_of_nonneg_right (by omega) (by omega)
    omega
  · omega
theorem put_ok {s : Est} (h : EOk s) {r a : Int} (hr : s.n ≤ r) (hr1 : r ≤ 1114111) (ha : 0 ≤ a) (ha1 : a ≤ s.m) (hn : s.n < r ∨ s.i ≤ a) (hm : s.m + 1 ≤ 120) : EOk (putE s r a) := by
  have hd := num_bd h hr hr1 ha ha1 hn
  obtain ⟨n0, n1, i0, i1, m1, b0, b1⟩ := h
  have hb := bias_bd s.first hd.1 hd.2 (show 1 ≤ s.m + 1 by omega)
  exact ⟨by show 128 ≤ r; omega, hr1, by show 0 ≤ a + 1; omega, by show a + 1 ≤ s.m + 1; omega, hm, hb.1, hb.2⟩
theorem start_ok {l : List Int} (hl : l.length ≤ 120) : EOk (startE l) := by
  have : (plainM l).length ≤ l.length := List.length_filter_le _ _
  exact ⟨by show (128 : Int) ≤ 128; omega, by show (128 : Int) ≤ _; omega, by show (0 : Int) ≤ 0; omega, by show (0 : Int) ≤ ((plainM l).length : Int); omega, by show ((plainM l).length : Int) ≤ 120; omega, by show (0 : Int) ≤ 72; omega, by show (72 : Int) ≤ 215; omega⟩
theorem ord_len (l : List Int) : (plainM l).length + (ordM l).length = l.length := by
  rw [(ord_is l).1.length_eq, plain_len]
  unfold idxM
  rw [List.length_map, ← List.countP_eq_length_filter]
  have := List.length_eq_countP_add_countP (fun k => decide (l.getD k 0 < 128)) (l := List.range l.length)
  rw [List.length_range] at this
  have e : (List.range l.length).countP (fun k => decide (128 ≤ l.getD k 0)) = (List.range l.length).countP (fun a => decide ¬decide (l.getD a 0 < 128) = true) := List.countP_congr (fun j hj => by simp)
  omega
theorem after_m (l P : List Int) : (afterE l P).m = (plainM l).length + P.length := by
  have : ∀ (P : List Int) (s : Est), (P.foldl (stepE l) s).m = s.m + P.length := by
    intro P
    induction P with
    | nil => intro s; simp
    | cons k P ih => intro s; rw [List.foldl_cons, ih]; show s.m + 1 + _ = _; simp; omega
  exact this P _
/-- WHAT HOLDS WHERE THE NEXT RUNE IS PUT IN -/
theorem ord_step {l : List Int} (hl : l.length ≤ 120) (hr : ∀ x ∈ l, x ≤ 1114111) : ∀ (P S : List Int) (k : Int), ordM l = P ++ k :: S →
    EOk (afterE l P) ∧ (afterE l P).n ≤ rn l k ∧ rn l k ≤ 1114111 ∧ (aheadM l k.toNat : Int) ≤ (afterE l P).m ∧ ((afterE l P).n < rn l k ∨ (afterE l P).i ≤ (aheadM l k.toNat : Int)) ∧ (afterE l P).m + 1 ≤ 120 := by
  have key : ∀ (n : Nat) (P S : List Int) (k : Int), P.length = n → ordM l = P ++ k :: S → EOk (afterE l P) ∧ (afterE l P).n ≤ rn l k ∧ rn l k ≤ 1114111 ∧ (aheadM l k.toNat : Int) ≤ (afterE l P).m ∧ ((afterE l P).n < rn l k ∨ (afterE l P).i ≤ (aheadM l k.toNat : Int)) ∧ (afterE l P).m + 1 ≤ 120 := by
    intro n
    induction n with
    | zero =>
      intro P S k hP h
      obtain rfl : P = [] := List.eq_nil_of_length_eq_zero hP
      have hk := (ord_mem (l := l) (k := k)).1 (by rw [h]; simp)
      have ha := ahead_present h
      have hm := ord_len l
      rw [h] at hm
      simp at hm ha
      have hrk : rn l k ∈ l := by
        unfold rn
        rw [List.getD_eq_getElem?_getD, List.getElem?_eq_getElem (by omega)]
        exact List.getElem_mem _
      refine ⟨start_ok hl, hk.2.2, hr _ hrk, by show (aheadM l k.toNat : Int) ≤ ((plainM l).length : Int); omega, .inr (by show (0 : Int) ≤ _; omega), by show ((plainM l).length : Int) + 1 ≤ 120; omega⟩
    | succ n ih =>
      intro P S k hP h
      obtain ⟨P', k', rfl⟩ : ∃ P' k', P = P' ++ [k'] := ⟨P.dropLast, P.getLast (by intro e; simp [e] at hP), (List.dropLast_concat_getLast _).symm⟩
      have h' : ordM l = P' ++ k' :: (k :: S) := by rw [h]; simp
      obtain ⟨o1, o2, o3, o4, o5, o6⟩ := ih P' (k :: S) k' (by simpa using hP) h'
      have hk := (ord_mem (l := l) (k := k)).1 (by rw [h]; simp)
      have hk' := (ord_mem (l := l) (k := k')).1 (by rw [h]; simp)
      have ha := ahead_present h
      have hm := ord_len l
      rw [h] at hm
      have hrk : rn l k ∈ l := by
        unfold rn
        rw [List.getD_eq_getElem?_getD, List.getElem?_eq_getElem (by omega)]
        exact List.getElem_mem _
      have hlex : lexLt l k' k := by
        have := (ord_is l).2
        rw [h, List.pairwise_append] at this
        exact this.2.2 k' (by simp) k (by simp)
      have hmm := after_m l (P' ++ [k'])
      simp at hm
      refine ⟨?_, ?_, hr _ hrk, ?_, ?_, ?_⟩
      · rw [after_snoc]
        exact put_ok o1 o2 o3 (by omega) o4 o5 o6
      · rw [after_snoc]
        show rn l k' ≤ rn l k
        unfold lexLt at hlex; omega
      · rw [hmm]; simp at ha ⊢; omega
      · rw [after_snoc]
        show rn l k' < rn l k ∨ (aheadM l k'.toNat : Int) + 1 ≤ _
        rcases hlex with g | ⟨g1, g2⟩
        · exact .inl g
        · have := ahead_next (l := l) (k' := k'.toNat) (k := k.toNat) (by omega) (by omega) g1
          exact .inr (by omega)
      · rw [hmm]; simp; omega
  exact fun P S k h => key P.length P S k rfl h
/-- what is written is no longer than so -/
theorem after_len {l : List Int} (hl : l.length ≤ 120) (hr : ∀ x ∈ l, x ≤ 1114111) (P S : List Int) (h : ordM l = P ++ S) : (afterE l P).out.length ≤ 121 + 11 * P.length := by
  have key : ∀ (n : Nat) (P S : List Int), P.length = n → ordM l = P ++ S → (afterE l P).out.length ≤ 121 + 11 * P.length := by
    intro n
    induction n with
    | zero =>
      intro P S hP h
      obtain rfl : P = [] := List.eq_nil_of_length_eq_zero hP
      have : (plainM l).length ≤ l.length := List.length_filter_le _ _
      show (if (plainM l).length = 0 then plainM l else plainM l ++ [45]).length ≤ _
      split <;> simp <;> omega
    | succ n ih =>
      intro P S hP h
      obtain ⟨P', k', rfl⟩ : ∃ P' k', P = P' ++ [k'] := ⟨P.dropLast, P.getLast (by intro e; simp [e] at hP), (List.dropLast_concat_getLast _).symm⟩
      have h' : ordM l = P' ++ k' :: S := by rw [h]; simp
      have h1 := ih P' (k' :: S) (by simpa using hP) h'
      obtain ⟨o1, o2, o3, o4, o5, o6⟩ := ord_step hl hr P' S k' h'
      have hd := num_bd o1 o2 o3 (by omega) o4 o5
      rw [after_snoc]
      show ((afterE l P').out ++ digM (numE (afterE l P') (rn l k') (aheadM l k'.toNat)) (afterE l P').bias).length ≤ _
      have := dig_len (bias := (afterE l P').bias) hd.1 hd.2
      simp
      omega
  exact key _ P S rfl h
/-- what is stable-sorted is in order -/
theorem lex_of {l O : List Int} (hp : O.Perm (idxM l)) (h1 : O.Pairwise (fun a b => rn l a = rn l b → a < b)) (h2 : O.Pairwise (fun a b => rn l a ≤ rn l b)) : O = ordM l :=
  isOrd_unique ⟨hp, (pw_and h1 h2).imp (fun {a b} h => by unfold lexLt; have := h.1; have := h.2; omega)⟩ (ord_is l)
/-- those that are put in ahead of a rune and a number -/
def doneM (l : List Int) (r k : Int) : List Int := (ordM l).filter (fun j => decide (rn l j < r ∨ (rn l j = r ∧ j < k)))
theorem done_hit {l : List Int} {r : Int} {k : Nat} (hk : k < l.length) (e : l.getD k 0 = r) (hr : 128 ≤ r) : ∃ S, ordM l = doneM l r k ++ (k : Int) :: S ∧ doneM l r (k + 1) = doneM l r k ++ [(k : Int)] := by
  have hm : (k : Int) ∈ ordM l := ord_mem.2 ⟨by omega, by omega, by show 128 ≤ l.getD (k : Int).toNat 0; rw [Int.toNat_natCast]; omega⟩
  obtain ⟨P, S, h⟩ := List.append_of_mem hm
  have hpw := (ord_is l).2
  rw [h, List.pairwise_append, List.pairwise_cons] at hpw
  have ek : rn l (k : Int) = r := by simpa [rn] using e
  have h1 : doneM l r k = P := by
    unfold doneM
    rw [h, List.filter_append, List.filter_cons, if_neg (by simp; omega)]
    rw [List.filter_eq_self.2 (fun a ha => by have := hpw.2.2 a ha k (by simp); simp [lexLt] at this ⊢; omega), List.filter_eq_nil_iff.2 (fun a ha => by have := hpw.2.1.1 a ha; simp [lexLt] at this ⊢; omega)]
    simp
  have h2 : doneM l r (k + 1) = P ++ [(k : Int)] := by
    unfold doneM
    rw [h, List.filter_append, List.filter_cons, if_pos (by simp; omega)]
    rw [List.filter_eq_self.2 (fun a ha => by have := hpw.2.2 a ha k (by simp); simp [lexLt] at this ⊢; omega), List.filter_eq_nil_iff.2 (fun a ha => by have := hpw.2.1.1 a ha; simp [lexLt] at this ⊢; omega)]
  exact ⟨S, by rw [h1]; exact h, by rw [h2, h1]⟩
theorem done_miss {l : List Int} {r : Int} {k : Nat} (e : l.getD k 0 ≠ r) : doneM l r (k + 1) = doneM l r k := by
  unfold doneM
  refine List.filter_congr (fun j hj => ?_)
  have hj' := ord_mem.1 hj
  by_cases h : j = k
  · subst h
    have : rn l (k : Int) ≠ r := by simpa [rn] using e
    simp [this]
  · rw [decide_eq_decide]
    omega
/-- from one rune to the next one -/
theorem done_next {l : List Int} {r r' : Int} (h : r < r') (hn : ∀ x ∈ l, r < x → r' ≤ x) : doneM l r l.length = doneM l r' 0 := by
  unfold doneM
  refine List.filter_congr (fun j hj => ?_)
  have hj' := ord_mem.1 hj
  have hm : rn l j ∈ l := by
    unfold rn
    rw [List.getD_eq_getElem?_getD, List.getElem?_eq_getElem (by omega)]
    exact List.getElem_mem _
  have := hn _ hm
  rw [decide_eq_decide]
  omega
theorem done_all {l : List Int} {r : Int} (hn : ∀ x ∈ l, ¬ r < x) : doneM l r l.length = ordM l := by
  unfold doneM
  refine List.filter_eq_self.2 (fun j hj => ?_)
  have hj' := ord_mem.1 hj
  have hm : rn l j ∈ l := by
    unfold rn
    rw [List.getD_eq_getElem?_getD, List.getElem?_eq_getElem (by omega)]
    exact List.getElem_mem _
  have := hn _ hm
  simp
  omega
theorem done_none {l : List Int} {r : Int} (hr : ∀ x ∈ l, 128 ≤ x → r ≤ x) : doneM l r 0 = [] := by
  unfold doneM
  refine List.filter_eq_nil_iff.2 (fun j hj => ?_)
  have hj' := ord_mem.1 hj
  have hm : rn l j ∈ l := by
    unfold rn
    rw [List.getD_eq_getElem?_getD, List.getElem?_eq_getElem (by omega)]
    exact List.getElem_mem _
  have := hr _ hm hj'.2.2
  simp
  omega
end Go.Proofs.YtockmkcoehepiaaDoor

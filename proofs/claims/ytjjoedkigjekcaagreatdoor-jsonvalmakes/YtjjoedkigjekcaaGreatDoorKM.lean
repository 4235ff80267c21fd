/-
  What is proved here: plain mathematics: a number that is written so is well-formed; how a number is passed by; what is compacted and is no shorter has no two alike; members in the order of their names. No program is in it.
-/
import Derived.Test.YtjjoedkigjekcaaGreatDoorJ7
import Derived.Test.YtjjoedkigjekcaaGreatDoorJD
import Derived.Lib.SlicesCompact
namespace Go.Proofs.YtjjoedkigjekcaaGreatDoor

/-! ## well-formed -/
theorem first_low {b : UInt8} {t : List UInt8} (h : b.toNat < 128) : Utf.first (b :: t) = ((b.toNat : Int), 1, 0) := by
  have hf : Utf.formWidth b.toNat = 1 := by
    unfold Utf.formWidth
    rw [if_neg (by omega), if_neg (by omega), if_neg (by omega), if_neg (by omega), if_pos (by omega)]
  have hl : Utf.leadBits b.toNat 1 = b.toNat := by simp [Utf.leadBits]
  have hw : Utf.width (b.toNat : Int) = 1 := by
    unfold Utf.width
    rw [if_neg (by omega), if_pos (by omega)]
  rw [Utf.first, hf, hl]
  simp [Utf.acc, Utf.ltr, Utf.pw, hw]
theorem dec_low : ∀ (s : List UInt8) (a : Nat), (∀ b ∈ s, b.toNat < 128) → (Utf.dec s a).2.2 = 0
  | [], a, _ => by rw [Utf.dec_nil]
  | b :: s, a, h => by
    rw [Utf.dec_step a (first_low (h b (by simp)))]
    have := dec_low s (a + 1) (fun x hx => h x (by simp [hx]))
    simp [Utf.glue, this]
theorem gd_low {s : List UInt8} (h : ∀ b ∈ s, b.toNat < 128) : gd s = true := by
  unfold gd
  rw [dec_low s 0 h]
  rfl
theorem isNum_low {b : UInt8} (h : isNum b = true) : b.toNat < 128 := by
  simp only [isNum, isDig, Bool.or_eq_true, Bool.and_eq_true, decide_eq_true_eq, beq_iff_eq] at h
  rcases h with ((((h | h) | h) | h) | h) | h
  · have := UInt8.le_iff_toNat_le.1 h.2
    have e : (57 : UInt8).toNat = 57 := rfl
    omega
  all_goals (subst h; decide)
theorem gd_written {s : List UInt8} (h : writtenM s = true) : gd s = true := gd_low fun b hb => isNum_low (written_num h b hb)
theorem gd_nil : gd [] = true := gd_low (by simp)

/-! ## how a number is passed by -/
theorem getD_drop (s : List UInt8) (a : Nat) : s.getD a 0 = (s.drop a).headD 0 := by
  rw [List.getD_eq_getElem?_getD, ← List.head?_drop]
  cases s.drop a <;> rfl
theorem digsN_drop (s : List UInt8) (a : Nat) : s.drop (a + digsN s a) = (s.drop a).dropWhile isDig := by
  rw [← List.drop_drop]
  unfold digsN
  generalize s.drop a = r
  induction r with
  | nil => rfl
  | cons b r ih =>
    by_cases h : isDig b = true
    · rw [List.takeWhile_cons, if_pos h, List.dropWhile_cons, if_pos h]
      simpa using ih
    · rw [List.takeWhile_cons, if_neg h, List.dropWhile_cons, if_neg h]
      simp
/-- the rest of a number's text is digits, and then something -/
def tailD (r : List UInt8) : Bool := (r.takeWhile isDig).length != 0
/-- a number behind its fraction -/
def num3 (r : List UInt8) : Bool :=
  if r.headD 0 = 101 ∨ r.headD 0 = 69 then
    (if r.tail.headD 0 = 43 ∨ r.tail.headD 0 = 45 then tailD r.tail.tail && (r.tail.tail.dropWhile isDig).isEmpty else tailD r.tail && (r.tail.dropWhile isDig).isEmpty)
  else r.isEmpty
def num2 (r : List UInt8) : Bool := if r.headD 0 = 46 then tailD r.tail && num3 (r.tail.dropWhile isDig) else num3 r
def num1 (r : List UInt8) : Bool := if r.headD 0 = 48 then num2 r.tail else tailD r && num2 (r.dropWhile isDig)
def numM (s : List UInt8) : Bool := num1 (if s.headD 0 = 45 then s.tail else s)
theorem tail_drop (s : List UInt8) (a : Nat) : (s.drop a).tail = s.drop (a + 1) := by rw [List.tail_drop]
theorem len_drop (s : List UInt8) (a : Nat) (ha : a ≤ s.length) : (a == s.length) = (s.drop a).isEmpty := by
  rw [Bool.eq_iff_iff, beq_iff_eq, List.isEmpty_iff, List.drop_eq_nil_iff]
  omega
theorem dgs_upto (s : List UInt8) (a : Nat) (ha : a ≤ s.length) : a + digsN s a ≤ s.length := by
  have : digsN s a ≤ (s.drop a).length := by
    unfold digsN
    exact (List.takeWhile_sublist _).length_le
  rw [List.length_drop] at this; omega
theorem head_le (s : List UInt8) (a : Nat) (h : s.getD a 0 ≠ 0) : a + 1 ≤ s.length := by
  rcases Nat.lt_or_ge a s.length with g | g
  · exact g
  · rw [List.getD_eq_getElem?_getD, List.getElem?_eq_none g] at h; exact absurd rfl h
theorem digs_tail (s : List UInt8) (a : Nat) (ha : a ≤ s.length) : (if digsN s a = 0 then false else a + digsN s a == s.length) = (tailD (s.drop a) && ((s.drop a).dropWhile isDig).isEmpty) := by
  rw [len_drop s _ (dgs_upto s a ha), digsN_drop]
  unfold tailD
  rw [show ((s.drop a).takeWhile isDig).length = digsN s a from rfl]
  by_cases h : digsN s a = 0
  · simp [h]
  · simp [h]
theorem wr3_num3 (s : List UInt8) (a : Nat) (ha : a ≤ s.length) : wr3 s a = num3 (s.drop a) := by
  unfold wr3 num3
  rw [tail_drop, tail_drop, ← getD_drop, ← getD_drop]
  by_cases h : s.getD a 0 = 101 ∨ s.getD a 0 = 69
  · have h1 : a + 1 ≤ s.length := head_le s a (by rcases h with e | e <;> rw [e] <;> decide)
    rw [if_pos h, if_pos h]
    by_cases g : s.getD (a + 1) 0 = 43 ∨ s.getD (a + 1) 0 = 45
    · have h2 : a + 1 + 1 ≤ s.length := head_le s (a + 1) (by rcases g with e | e <;> rw [e] <;> decide)
      rw [if_pos g, if_pos g]
      exact digs_tail s (a + 2) (by omega)
    · rw [if_neg g, if_neg g]
      exact digs_tail s (a + 1) h1
  · rw [if_neg h, if_neg h]
    exact len_drop s a ha
theorem wr2_num2 (s : List UInt8) (a : Nat) (ha : a ≤ s.length) : wr2 s a = num2 (s.drop a) := by
  unfold wr2 num2
  rw [tail_drop, ← getD_drop]
  by_cases h : s.getD a 0 = 46
  · have h1 : a + 1 ≤ s.length := head_le s a (by rw [h]; decide)
    rw [if_pos h, if_pos h, wr3_num3 s _ (dgs_upto s (a + 1) h1), digsN_drop]
    unfold tailD
    rw [show ((s.drop (a + 1)).takeWhile isDig).length = digsN s (a + 1) from rfl]
    by_cases g : digsN s (a + 1) = 0
    · simp [g]
    · simp [g]
  · rw [if_neg h, if_neg h]
    exact wr3_num3 s a ha
theorem num2_dig {b : UInt8} {r : List UInt8} (h : isDig b = true) : num2 (b :: r) = false := by
  unfold num2 num3
  have e1 : b ≠ 46 := by rintro rfl; revert h; decide
  have e2 : b ≠ 101 := by rintro rfl; revert h; decide
  have e3 : b ≠ 69 := by rintro rfl; revert h; decide
  simp [e1, e2, e3]
theorem wr1_num1 (s : List UInt8) (a : Nat) (ha : a ≤ s.length) : wr1 s a = num1 (s.drop a) := by
  unfold wr1 num1
  rw [tail_drop, ← getD_drop]
  by_cases h : s.getD a 0 = 48
  · have h1 : a + 1 ≤ s.length := head_le s a (by rw [h]; decide)
    have hd : s.drop a = 48 :: s.drop (a + 1) := by
      rw [List.drop_eq_getElem_cons (by omega)]
      congr 1
      rw [← h, List.getD_eq_getElem?_getD, List.getElem?_eq_getElem (by omega)]
      rfl
    have hn : digsN s a = 1 + digsN s (a + 1) := by
      unfold digsN
      rw [hd, List.takeWhile_cons, if_pos (by decide), List.length_cons]; omega
    rw [if_pos h]
    by_cases g : digsN s (a + 1) = 0
    · rw [if_neg (by intro x; rcases x with x | ⟨x, -⟩ <;> omega), wr2_num2 s _ (dgs_upto s a ha), hn, g]
    · rw [if_pos (.inr ⟨by omega, h⟩)]
      cases e : s.drop (a + 1) with
      | nil => exfalso; apply g; unfold digsN; rw [e]; rfl
      | cons b r =>
        rw [num2_dig]
        unfold digsN at g
        rw [e, List.takeWhile_cons] at g
        by_cases q : isDig b = true
        · exact q
        · rw [if_neg q] at g; exact absurd rfl g
  · rw [if_neg h, wr2_num2 s _ (dgs_upto s a ha), digsN_drop]
    unfold tailD
    rw [show ((s.drop a).takeWhile isDig).length = digsN s a from rfl]
    by_cases g : digsN s a = 0
    · simp [g]
    · rw [if_neg (by intro x; rcases x with x | x; exact g x; exact h x.2)]
      simp [g]
theorem written_numM (s : List UInt8) : writtenM s = numM s := by
  unfold writtenM numM
  rw [getD_drop, List.drop_zero]
  by_cases h : s.headD 0 = 45
  · rw [if_pos h, if_pos h, wr1_num1 s 1 (head_le s 0 (by rw [getD_drop, List.drop_zero, h]; decide)), List.drop_one]
  · rw [if_neg h, if_neg h, wr1_num1 s 0 (Nat.zero_le _), List.drop_zero]

/-! ## names that are compacted -/
theorem bytes_le_trans {a b c : List UInt8} (h : a ≤ b) (h' : b ≤ c) : a ≤ c := List.le_trans h h'
theorem sorted_names (ss : List (List UInt8)) : (ss.mergeSort fun x y => decide (x ≤ y)).Pairwise (· ≤ ·) := by
  have := List.pairwise_mergeSort (le := fun x y : List UInt8 => decide (x ≤ y)) (fun a b c h1 h2 => by simp only [decide_eq_true_eq] at *; exact List.le_trans h1 h2) (fun a b => by simp only [Bool.or_eq_true, decide_eq_true_eq]; exact List.le_total a b) ss
  simpa using this
theorem nodup_adj {l : List (List UInt8)} (hs : l.Pairwise (· ≤ ·)) : l.Nodup ↔ ∀ j, j + 1 < l.length → l[j + 1]! ≠ l[j]! := by
  constructor
  · intro h j hj e
    rw [getElem!_pos l (j + 1) hj, getElem!_pos l j (by omega)] at e
    have := (List.getElem?_inj (i := j + 1) (j := j) hj h).1 (by rw [List.getElem?_eq_getElem hj, List.getElem?_eq_getElem (by omega), e])
    omega
  · intro h
    induction l with
    | nil => exact List.nodup_nil
    | cons a l ih =>
      obtain ⟨h1, h2⟩ := List.pairwise_cons.1 hs
      refine List.nodup_cons.2 ⟨fun ha => ?_, ih h2 (fun j hj => by simpa using h (j + 1) (by simpa using hj))⟩
      cases l with
      | nil => simp at ha
      | cons b l =>
        have hb := h 0 (by simp)
        simp at hb
        obtain ⟨h3, -⟩ := List.pairwise_cons.1 h2
        have hab := h1 b (by simp)
        rcases List.mem_cons.1 ha with e | e
        · exact hb e.symm
        · exact hb (List.le_antisymm (h3 a e) hab)
theorem compact_nodup (ss : List (List UInt8)) : ((Go.Lib.compactUpTo (ss.mergeSort fun x y => decide (x ≤ y)).toArray (ss.mergeSort fun x y => decide (x ≤ y)).toArray.size).length < ss.length) ↔ ¬ ss.Nodup := by
  have hp := List.mergeSort_perm ss (fun x y => decide (x ≤ y))
  have hs := sorted_names ss
  have hl := hp.length_eq
  rw [← hp.nodup_iff, nodup_adj hs]
  generalize ss.mergeSort (fun x y => decide (x ≤ y)) = l at *
  rw [← hl]
  unfold Go.Lib.compactUpTo
  rw [List.length_map]
  simp only [List.size_toArray]
  have h1 : ((List.range l.length).filter (Go.Lib.keeps l.toArray)).length < l.length ↔ ∃ x ∈ List.range l.length, ¬ Go.Lib.keeps l.toArray x = true := by
    have := List.length_filter_lt_length_iff_exists (l := List.range l.length) (p := Go.Lib.keeps l.toArray)
    rw [List.length_range] at this
    exact this
  rw [h1]
  constructor
  · rintro ⟨x, hx, hk⟩ h
    apply hk
    have hx := List.mem_range.1 hx
    cases x with
    | zero => simp [Go.Lib.keeps]
    | succ j =>
      have := h j hx
      simp only [Go.Lib.keeps, decide_eq_true_eq]
      right
      simpa using this
  · intro h
    apply Classical.byContradiction
    intro hn
    apply h
    intro j hj e
    apply hn
    refine ⟨j + 1, List.mem_range.2 hj, ?_⟩
    simp only [Go.Lib.keeps, decide_eq_true_eq]
    rintro (h0 | h0)
    · omega
    · exact h0 (by simpa using e)

/-! ## members in the order of their names -/
/-- lists of members of which each has an equal one of the same name in the other: in the order of their names they are equal one by one -/
theorem members_order {m m' n n' : List (List UInt8 × J)} (hp : n.Perm m) (hp' : n'.Perm m') (hs : n.Pairwise fun x y => x.1 ≤ y.1) (hs' : n'.Pairwise fun x y => x.1 ≤ y.1) (hn : (m.map fun x => x.1).Nodup) (hn' : (m'.map fun x => x.1).Nodup) :
    (n.length = n'.length ∧ ∀ (j : Nat) x y, n[j]? = some x → n'[j]? = some y → x.1 = y.1 ∧ Eqv x.2 y.2) ↔
      (m.length = m'.length ∧ ∀ (j : Nat) x, m[j]? = some x → ∃ (i : Nat) (y : List UInt8 × J), m'[i]? = some y ∧ y.1 = x.1 ∧ Eqv x.2 y.2) := by
  constructor
  · rintro ⟨h1, h2⟩
    refine ⟨by rw [← hp.length_eq, ← hp'.length_eq, h1], fun j x hx => ?_⟩
    have hxm := hp.mem_iff.2 (List.mem_of_getElem? hx)
    obtain ⟨i, hi⟩ := List.mem_iff_getElem?.1 hxm
    have hil : i < n'.length := by
      rw [← h1]
      exact (List.getElem?_eq_some_iff.1 hi).1
    obtain ⟨e1, e2⟩ := h2 i x _ hi (List.getElem?_eq_getElem hil)
    have hym := hp'.mem_iff.1 (List.getElem_mem hil)
    obtain ⟨i', hi'⟩ := List.mem_iff_getElem?.1 hym
    exact ⟨i', _, hi', e1.symm, e2⟩
  · rintro ⟨h1, h2⟩
    have hnn : (n.map fun x => x.1).Nodup := (hp.map fun x => x.1).nodup_iff.2 hn
    have hnn' : (n'.map fun x => x.1).Nodup := (hp'.map fun x => x.1).nodup_iff.2 hn'
    have hsub : ∀ x ∈ m.map (fun x => x.1), x ∈ m'.map (fun x => x.1) := fun x hx => by
      obtain ⟨p, hp, rfl⟩ := List.mem_map.1 hx
      obtain ⟨i, hi⟩ := List.mem_iff_getElem?.1 hp
      obtain ⟨q, z, hq, e, -⟩ := h2 i p hi
      exact List.mem_map.2 ⟨z, List.mem_of_getElem? hq, e⟩
    have hback := names_back hn (by simpa using h1) hsub
    have hperm : (n.map fun x => x.1).Perm (n'.map fun x => x.1) := by
      refine ((hp.map fun x => x.1).trans ?_).trans (hp'.map fun x => x.1).symm
      exact (List.perm_ext_iff_of_nodup hn hn').2 fun x => ⟨hsub x, hback x⟩
    have heq : (n.map fun x => x.1) = (n'.map fun x => x.1) :=
      List.Perm.eq_of_pairwise (le := fun a b : List UInt8 => a ≤ b) (fun a b _ _ h1 h2 => List.le_antisymm h1 h2) (List.pairwise_map.2 hs) (List.pairwise_map.2 hs') hperm
    refine ⟨by rw [hp.length_eq, hp'.length_eq, h1], fun j x y hx hy => ?_⟩
    have e : x.1 = y.1 := by
      have := congrArg (fun l : List (List UInt8) => l[j]?) heq
      simp only [List.getElem?_map, hx, hy, Option.map_some, Option.some.injEq] at this
      exact this
    refine ⟨e, ?_⟩
    obtain ⟨i, hi⟩ := List.mem_iff_getElem?.1 (hp.mem_iff.1 (List.mem_of_getElem? hx))
    obtain ⟨q, z, hq, ez, hv⟩ := h2 i x hi
    have hz := hp'.mem_iff.2 (List.mem_of_getElem? hq)
    obtain ⟨i2, hz2⟩ := List.mem_iff_getElem?.1 hz
    obtain ⟨-, rfl⟩ := nodup_at hnn' hz2 hy (ez.trans e)
    exact hv
end Go.Proofs.YtjjoedkigjekcaaGreatDoor

/-
  What is proved here: plain mathematics of P4.4 and P5.4 (no program): what is taken apart stays so; what is composed is taken apart to the same as before, and stays composed. · plain mathematics (no program): what right runes are taken apart to and composed to by a right norm are right runes, that is runes of a width.
-/
import Derived.Test.YtoceaielclomcaaRRGreatDoorKR
import Derived.Test.YtoceaielclomcaaRRGreatDoorUM
namespace Go.Proofs.YtoceaielclomcaaRRGreatDoor

/-- a rune that is taken apart to itself -/
def Fix (rows : List Rw) (r : Int) : Prop := oneM rows r = [r]
theorem fix_of {rows : List Rw} {r : Int} (hs : isSyl r = false) (h : ∀ i, i < rows.length → (rw_ rows i).fr ≠ r) : Fix rows r := oneM_none hs h
theorem fix_hang {rows : List Rw} (hc : ∀ i, i < rows.length → rowCode rows i = 0) {r : Int} (hs : isSyl r = false) (hh : hang r = true) : Fix rows r :=
  fix_of hs fun i hi e => by
    have := (may_right (rowCode_zero (hc i hi)).1).2
    rw [e, hh] at this; cases this
theorem any_no {rows : List Rw} {x : Int} (h : (rows.any fun y => y.fr == x) = false) : ∀ i, i < rows.length → (rw_ rows i).fr ≠ x := fun i hi e => by
  rw [List.any_eq_false] at h
  have := h (rw_ rows i) (by unfold rw_; rw [List.getD, List.getElem?_eq_getElem hi]; exact List.getElem_mem hi)
  simp [e] at this
/-- what a rune that is no syllable is taken apart to: runes that stay -/
theorem oneIn_fix {rows : List Rw} (hc : ∀ i, i < rows.length → rowCode rows i = 0) (k : Nat) (hk : k ≤ rows.length) : ∀ r : Int, isSyl r = false → (∀ i, k ≤ i → i < rows.length → (rw_ rows i).fr ≠ r) → ∀ x ∈ oneIn rows k r, Fix rows x := by
  induction k with
  | zero =>
    intro r hs hn x hx
    obtain rfl : x = r := by simpa [oneIn] using hx
    exact fix_of hs fun i hi => hn i (Nat.zero_le _) hi
  | succ k ih =>
    intro r hs hn x hx
    rw [oneIn_succ] at hx
    obtain ⟨hfo1, hfo2, hfo3, hfo4⟩ := formed_parts (rowCode_zero (hc k (by omega))).2.2.1
    split at hx
    · rcases List.mem_append.1 hx with hx | hx
      · refine ih (by omega) _ (hang_syl (may_right hfo3).2) (fun i h1 h2 => row_less hc (by omega) i (by omega) h2) x hx
      · rcases hfo1 with h1 | h2
        · rw [List.drop_of_length_le (by omega)] at hx; cases hx
        · rw [drop_two h2] at hx
          obtain rfl : x = (rw_ rows k).to1 := by simpa using hx
          refine fix_of (hang_syl (may_right (hfo4 _ ?_)).2) (any_no ((rowCode_zero (hc k (by omega))).2.2.2.1 h2))
          unfold Rw.to1
          rw [List.getD, List.getElem?_eq_getElem (by omega)]
          exact List.getElem_mem _
    · rename_i hne
      refine ih (by omega) r hs (fun i h1 h2 => ?_) x hx
      rcases Nat.eq_or_lt_of_le h1 with rfl | g
      · exact hne
      · exact hn i g h2
theorem oneM_fix {rows : List Rw} (hc : ∀ i, i < rows.length → rowCode rows i = 0) (r : Int) : ∀ x ∈ oneM rows r, Fix rows x := by
  unfold oneM
  split
  · rename_i hs
    unfold isSyl at hs
    rw [decide_eq_true_eq] at hs
    intro x hx
    unfold sylM at hx
    have : x = 4352 + (r - 44032) / 588 ∨ x = 4449 + (r - 44032) / 28 % 21 ∨ (x = 4519 + (r - 44032) % 28 ∧ (r - 44032) % 28 ≠ 0) := by
      rcases List.mem_append.1 hx with h | h
      · simp at h; omega
      · split at h
        · cases h
        · rename_i g; exact .inr (.inr ⟨by simpa using h, g⟩)
    refine fix_hang hc ?_ ?_
    · unfold isSyl; rw [decide_eq_false_iff_not]; omega
    · unfold hang; rw [decide_eq_true_eq]; omega
  · rename_i hs
    exact oneIn_fix hc rows.length (Nat.le_refl _) r (by simpa using hs) (fun i h1 h2 => by omega)
theorem apart_fix {rows : List Rw} (hc : ∀ i, i < rows.length → rowCode rows i = 0) (l : List Int) : ∀ x ∈ apartM rows l, Fix rows x := fun x hx => by
  obtain ⟨r, _, hr⟩ := List.mem_flatMap.1 hx
  exact oneM_fix hc r x hr
theorem apart_of_fix {rows : List Rw} (l : List Int) (h : ∀ x ∈ l, Fix rows x) : apartM rows l = l := by
  induction l with
  | nil => rfl
  | cons x l ih =>
    have e : apartM rows (x :: l) = oneM rows x ++ apartM rows l := by unfold apartM; rw [List.flatMap_cons]
    rw [e, h x (by simp), ih fun y hy => h y (by simp [hy])]
    rfl
theorem apart_append (rows : List Rw) (a b : List Int) : apartM rows (a ++ b) = apartM rows a ++ apartM rows b := by unfold apartM; rw [List.flatMap_append]
theorem dec_fix {t : Nm} (hc : ∀ i, i < t.rows.length → rowCode t.rows i = 0) (l : List Int) : ∀ x ∈ decM t l, Fix t.rows x := fun x hx => apart_fix hc l x ((orderM_perm _ _).mem_iff.1 hx)
/-- what is taken apart stays so -/
theorem dec_dec {t : Nm} (hc : ∀ i, i < t.rows.length → rowCode t.rows i = 0) (l : List Int) : decM t (decM t l) = decM t l := by
  have h := apart_of_fix (decM t l) (dec_fix hc l)
  show orderM _ (apartM t.rows (decM t l)) = _
  rw [h]
  exact orderM_idem _ _
/-- two lists, one behind the other -/
theorem dec_append {t : Nm} (hc : ∀ i, i < t.rows.length → rowCode t.rows i = 0) (a b : List Int) : decM t (decM t a ++ decM t b) = decM t (a ++ b) := by
  show orderM _ (apartM t.rows (decM t a ++ decM t b)) = orderM _ (apartM t.rows (a ++ b))
  rw [apart_append, apart_append, apart_of_fix _ (dec_fix hc a), apart_of_fix _ (dec_fix hc b)]
  exact orderM_append _ _ _
/-- what two runes compose to is taken apart to the first one's parts, and the second -/
theorem pair_one {t : Nm} (hc : ∀ i, i < t.rows.length → rowCode t.rows i = 0) {s r x : Int} (h : pairM t s r = some x) : oneM t.rows x = oneM t.rows s ++ [r] := by
  rcases pairM_cases h with h | ⟨k, hk, h1, rfl⟩
  · have hx := sylPair_hang h
    have hsx : isSyl x = true := by unfold isSyl; rw [decide_eq_true_eq]; exact hx
    have ex : oneM t.rows x = sylM x := by unfold oneM; rw [if_pos hsx]
    rw [ex]
    unfold sylPair at h
    split at h
    · rename_i hl
      have hfs : Fix t.rows s := fix_hang hc (by unfold isSyl; rw [decide_eq_false_iff_not]; omega) (by unfold hang; rw [decide_eq_true_eq]; omega)
      rw [hfs]
      simp only [Option.some.injEq] at h
      unfold sylM
      rw [if_pos (by omega)]
      have e1 : 4352 + (x - 44032) / 588 = s := by omega
      have e2 : 4449 + (x - 44032) / 28 % 21 = r := by omega
      rw [e1, e2]
      rfl
    · split at h
      · rename_i hl
        simp only [Option.some.injEq] at h
        have es : oneM t.rows s = sylM s := by unfold oneM; rw [if_pos (by unfold isSyl; rw [decide_eq_true_eq]; omega)]
        rw [es]
        unfold sylM
        rw [if_neg (by omega), if_pos hl.2.2.1]
        have e1 : (x - 44032) / 588 = (s - 44032) / 588 := by omega
        have e2 : (x - 44032) / 28 = (s - 44032) / 28 := by omega
        have e3 : 4519 + (x - 44032) % 28 = r := by omega
        rw [e1, e2, e3]
        simp
      · cases h
  · obtain ⟨h2, h3, h4⟩ := rowHit_parts h1
    have h5 := (composes_parts h2).1
    rw [oneM_row hc hk (hang_syl (may_right (rowCode_zero (hc k hk)).1).2) rfl, h3, drop_two h5, h4]
section
variable (c : Int → Int)
/-- a rune goes behind runes of lower classes above 0 -/
theorem orderM_move (P Q R : List Int) (r : Int) (h : ∀ q ∈ Q, 0 < c q ∧ c q < c r) : orderM c (P ++ r :: Q ++ R) = orderM c (P ++ Q ++ r :: R) := by
  induction Q generalizing P with
  | nil => simp
  | cons q Q ih =>
    have h1 := h q (by simp)
    have e1 : P ++ r :: q :: Q ++ R = P ++ r :: q :: (Q ++ R) := by simp
    have e2 : P ++ q :: r :: (Q ++ R) = (P ++ [q]) ++ r :: Q ++ R := by simp
    have e3 : P ++ q :: Q ++ r :: R = (P ++ [q]) ++ Q ++ r :: R := by simp
    rw [show P ++ r :: (q :: Q) ++ R = P ++ r :: q :: (Q ++ R) by simp, orderM_swap c P (Q ++ R) r q h1.1 h1.2, e2, ih _ fun x hx => h x (by simp [hx]), e3]
end
theorem set_parts (l : List Int) (k : Nat) (x : Int) (hk : k < l.length) : l = l.take k ++ l.getD k 0 :: l.drop (k + 1) ∧ l.set k x = l.take k ++ x :: l.drop (k + 1) := by
  constructor
  · have : l.getD k 0 = l[k] := by simp [List.getD, List.getElem?_eq_getElem hk]
    rw [this, ← List.drop_eq_getElem_cons hk, List.take_append_drop]
  · rw [List.set_eq_take_append_cons_drop, if_pos hk]
/-- one step of putting together leaves what it is taken apart to -/
theorem step_dec {t : Nm} (hc : ∀ i, i < t.rows.length → rowCode t.rows i = 0) (hcl : ∀ i, i < t.cls.length → clsCode t.cls i = 0) (out : List Int) (r : Int) (hr : Fix t.rows r) (hm : ∀ y ∈ out, 0 < classOf t.cls y → Fix t.rows y) :
    (∀ rest, orderM (classOf t.cls) (apartM t.rows (stepM (classOf t.cls) (pairM t) out r) ++ rest) = orderM (classOf t.cls) (apartM t.rows out ++ r :: rest)) ∧ ∀ y ∈ stepM (classOf t.cls) (pairM t) out r, 0 < classOf t.cls y → Fix t.rows y := by
  have happ : (∀ rest, orderM (classOf t.cls) (apartM t.rows (out ++ [r]) ++ rest) = orderM (classOf t.cls) (apartM t.rows out ++ r :: rest)) ∧ ∀ y ∈ out ++ [r], 0 < classOf t.cls y → Fix t.rows y := by
    refine ⟨fun rest => ?_, fun y hy h0 => ?_⟩
    · have e : apartM t.rows [r] = [r] := apart_of_fix [r] (fun x hx => by obtain rfl : x = r := (by simpa using hx); exact hr)
      rw [apart_append, e]
      simp
    · rcases List.mem_append.1 hy with h | h
      · exact hm y h h0
      · obtain rfl : y = r := by simpa using h
        exact hr
  cases htr : triedM (classOf t.cls) out r
  · rw [step_not _ _ _ _ htr]; exact happ
  · cases hp : pairM t (out.getD (lastZ (classOf t.cls) out).toNat 0) r with
    | none => rw [step_miss _ _ _ _ htr hp]; exact happ
    | some x =>
      rw [step_hit _ _ _ _ _ htr hp]
      obtain ⟨h0, hall⟩ := (tried_iff (classOf t.cls) out r).1 htr
      have hlt : (lastZ (classOf t.cls) out).toNat < out.length := by have := (lastIn_lt (classOf t.cls) out out.length).1; unfold lastZ at *; omega
      generalize hk : (lastZ (classOf t.cls) out).toNat = k at *
      obtain ⟨eo, es⟩ := set_parts out k x hlt
      have hQ : ∀ q ∈ out.drop (k + 1), 0 < classOf t.cls q ∧ classOf t.cls q < classOf t.cls r := fun q hq => by
        obtain ⟨i, hi⟩ := List.mem_iff_getElem?.1 hq
        rw [List.getElem?_drop] at hi
        have hil : k + 1 + i < out.length := by
          rcases Nat.lt_or_ge (k + 1 + i) out.length with g | g
          · exact g
          · rw [List.getElem?_eq_none g] at hi; cases hi
        have eq : out.getD (k + 1 + i) 0 = q := by rw [List.getD, hi]; rfl
        have h1 := hall (k + 1 + i) (by omega) hil
        have h2 := lastIn_above (classOf t.cls) out out.length (k + 1 + i) (by unfold lastZ at *; omega) hil
        rw [eq] at h1 h2
        exact ⟨h2, h1⟩
      have hQf : apartM t.rows (out.drop (k + 1)) = out.drop (k + 1) := apart_of_fix _ fun q hq => hm q (List.mem_of_mem_drop hq) (hQ q hq).1
      refine ⟨fun rest => ?_, fun y hy hy0 => ?_⟩
      · have e1 : apartM t.rows (out.set k x) = apartM t.rows (out.take k) ++ oneM t.rows (out.getD k 0) ++ r :: out.drop (k + 1) := by
          rw [es, apart_append]
          have : apartM t.rows (x :: out.drop (k + 1)) = oneM t.rows x ++ apartM t.rows (out.drop (k + 1)) := by unfold apartM; rw [List.flatMap_cons]
          rw [this, hQf, pair_one hc hp]
          simp
        have e2 : apartM t.rows out = apartM t.rows (out.take k) ++ oneM t.rows (out.getD k 0) ++ out.drop (k + 1) := by
          conv => lhs; rw [eo]
          rw [apart_append]
          have : apartM t.rows (out.getD k 0 :: out.drop (k + 1)) = oneM t.rows (out.getD k 0) ++ apartM t.rows (out.drop (k + 1)) := by unfold apartM; rw [List.flatMap_cons]
          rw [this, hQf]
          simp
        rw [e1, e2]
        exact orderM_move (classOf t.cls) _ _ rest r hQ
      · rw [es] at hy
        rcases List.mem_append.1 hy with h | h
        · exact hm y (List.mem_of_mem_take h) hy0
        · rcases List.mem_cons.1 h with rfl | h
          · have := pair_class hcl hp; omega
          · exact hm y (List.mem_of_mem_drop h) hy0
theorem put_dec_aux {t : Nm} (hc : ∀ i, i < t.rows.length → rowCode t.rows i = 0) (hcl : ∀ i, i < t.cls.length → clsCode t.cls i = 0) (l out : List Int) (hl : ∀ x ∈ l, Fix t.rows x) (hm : ∀ y ∈ out, 0 < classOf t.cls y → Fix t.rows y) :
    orderM (classOf t.cls) (apartM t.rows (l.foldl (stepM (classOf t.cls) (pairM t)) out)) = orderM (classOf t.cls) (apartM t.rows out ++ l) := by
  induction l generalizing out with
  | nil => simp
  | cons r l ih =>
    obtain ⟨h1, h2⟩ := step_dec hc hcl out r (hl r (by simp)) hm
    rw [List.foldl_cons, ih _ (fun x hx => hl x (by simp [hx])) h2]
    exact h1 l
/-- what is composed is taken apart to the same as before -/
theorem dec_comp {t : Nm} (h : Right4 t) (l : List Int) : decM t (compM t l) = decM t l := by
  have := put_dec_aux h.row h.clsC (decM t l) [] (dec_fix h.row l) (fun y hy => by cases hy)
  show orderM _ (apartM t.rows (putM _ _ _)) = _
  unfold putM
  rw [this]
  show orderM _ ([] ++ decM t l) = _
  rw [List.nil_append]
  exact orderM_idem _ _
theorem comp_comp {t : Nm} (h : Right4 t) (l : List Int) : compM t (compM t l) = compM t l := by
  show putM _ _ (decM t (compM t l)) = _
  rw [dec_comp h l]
  rfl
theorem comp_len (t : Nm) (l : List Int) : (compM t l).length ≤ (decM t l).length := put_len _ _ _
theorem comp_same {t : Nm} (h : Right4 t) (a b : List Int) : (compM t a == compM t b) = (decM t a == decM t b) := by
  rw [Bool.eq_iff_iff, beq_iff_eq, beq_iff_eq]
  constructor
  · intro e
    rw [← dec_comp h a, ← dec_comp h b, e]
  · intro e
    show putM _ _ (decM t a) = putM _ _ (decM t b)
    rw [e]
end Go.Proofs.YtoceaielclomcaaRRGreatDoor
namespace Go.Proofs.YtoceaielclomcaaRRGreatDoor

theorem right_width {r : Int} : rightR r = true ↔ 0 < Utf.width r := by
  unfold rightR Utf.width
  rw [decide_eq_true_eq]
  (repeat' split) <;> omega
theorem oneIn_right {rows : List Rw} (hc : ∀ i, i < rows.length → rowCode rows i = 0) (k : Nat) (hk : k ≤ rows.length) : ∀ r : Int, rightR r = true → ∀ x ∈ oneIn rows k r, rightR x = true := by
  induction k with
  | zero =>
    intro r hr x hx
    obtain rfl : x = r := by simpa [oneIn] using hx
    exact hr
  | succ k ih =>
    intro r hr x hx
    rw [oneIn_succ] at hx
    obtain ⟨hfo1, hfo2, hfo3, hfo4⟩ := formed_parts (rowCode_zero (hc k (by omega))).2.2.1
    split at hx
    · rcases List.mem_append.1 hx with hx | hx
      · exact ih (by omega) _ (may_right hfo3).1 x hx
      · exact (may_right (hfo4 x (List.mem_of_mem_drop hx))).1
    · exact ih (by omega) r hr x hx
theorem oneM_right {rows : List Rw} (hc : ∀ i, i < rows.length → rowCode rows i = 0) {r : Int} (hr : rightR r = true) : ∀ x ∈ oneM rows r, rightR x = true := by
  unfold oneM
  split
  · rename_i hs
    unfold isSyl at hs
    rw [decide_eq_true_eq] at hs
    intro x hx
    unfold sylM at hx
    have : x = 4352 + (r - 44032) / 588 ∨ x = 4449 + (r - 44032) / 28 % 21 ∨ (x = 4519 + (r - 44032) % 28 ∧ (r - 44032) % 28 ≠ 0) := by
      rcases List.mem_append.1 hx with h | h
      · simp at h; omega
      · split at h
        · cases h
        · rename_i g; exact .inr (.inr ⟨by simpa using h, g⟩)
    unfold rightR; rw [decide_eq_true_eq]; omega
  · exact oneIn_right hc rows.length (Nat.le_refl _) r hr
theorem dec_right {t : Nm} (hc : ∀ i, i < t.rows.length → rowCode t.rows i = 0) {l : List Int} (hl : ∀ r ∈ l, rightR r = true) : ∀ x ∈ decM t l, rightR x = true := fun x hx => by
  obtain ⟨r, h1, h2⟩ := List.mem_flatMap.1 ((orderM_perm _ _).mem_iff.1 hx)
  exact oneM_right hc (hl r h1) x h2
theorem step_right {t : Nm} (hc : ∀ i, i < t.rows.length → rowCode t.rows i = 0) (c : Int → Int) {out : List Int} {r : Int} (ho : ∀ x ∈ out, rightR x = true) (hr : rightR r = true) : ∀ x ∈ stepM c (pairM t) out r, rightR x = true := by
  have hs : ∀ x ∈ out ++ [r], rightR x = true := fun x hx => by
    rcases List.mem_append.1 hx with h | h
    · exact ho x h
    · rw [List.mem_singleton.1 h]; exact hr
  unfold stepM
  split
  · split
    · rename_i y hy
      intro x hx
      rcases List.mem_or_eq_of_mem_set hx with h | h
      · exact ho x h
      · rw [h]; exact pair_right hc hy
    · exact hs
  · exact hs
theorem put_right {t : Nm} (hc : ∀ i, i < t.rows.length → rowCode t.rows i = 0) (c : Int → Int) (l : List Int) : ∀ out : List Int, (∀ x ∈ out, rightR x = true) → (∀ x ∈ l, rightR x = true) → ∀ x ∈ l.foldl (stepM c (pairM t)) out, rightR x = true := by
  induction l with
  | nil => intro out ho _; exact ho
  | cons r l ih =>
    intro out ho hl
    exact ih _ (step_right hc c ho (hl r (by simp))) fun x hx => hl x (by simp [hx])
theorem comp_right {t : Nm} (hc : ∀ i, i < t.rows.length → rowCode t.rows i = 0) {l : List Int} (hl : ∀ r ∈ l, 0 < Utf.width r) : ∀ x ∈ compM t l, 0 < Utf.width x := fun x hx =>
  right_width.1 (put_right hc _ _ [] (fun x hx => by cases hx) (dec_right hc fun r hr => right_width.2 (hl r hr)) x hx)
end Go.Proofs.YtoceaielclomcaaRRGreatDoor

/-
  What is proved here: plain mathematics of composition (no program): what two runes compose to, what runes are put together to, and how a walk keeps it. · what comp's endless, syllable and Pair answer. · what comp.Pair answers. · what comp's reaches, add, each and Put do. · what comp's add does to what was put together so far. · what comp's add does where the rune is composed with the last one of class 0. · what comp's add, each and Put do: runes are put together one by one.
-/
import Derived.Test.YtoceaielclomcaaRRGreatDoorKS
import Derived.Test.YtoceaielclomcaaRRGreatDoorO0
import Derived.Test.YtoceaielclomcaaRRGreatDoorA7
import Derived.Test.YtoceaielclomcaaRRGreatDoorE0
import Derived.OneCell
import Derived.Deep.RegionHeld3
import Derived.Shelf.Abstract
namespace Go.Proofs.YtoceaielclomcaaRRGreatDoor

/-- the syllable that two runes of Hangul compose to -/
def sylPair (a b : Int) : Option Int :=
  if 4352 ≤ a ∧ a ≤ 4370 ∧ 4449 ≤ b ∧ b ≤ 4469 then some (44032 + ((a - 4352) * 21 + b - 4449) * 28)
  else if 44032 ≤ a ∧ a ≤ 55203 ∧ (a - 44032) % 28 = 0 ∧ 4520 ≤ b ∧ b ≤ 4546 then some (a + b - 4520 + 1) else none
/-- does the row number i compose two runes? -/
def rowHit (t : Nm) (a b : Int) (i : Nat) : Bool := composesM t i && ((rw_ t.rows i).to0 == a && (rw_ t.rows i).to1 == b)
/-- the first row that composes two runes -/
def rowPair (t : Nm) (a b : Int) : Option Nat := (List.range t.rows.length).find? (rowHit t a b)
/-- what two runes compose to -/
def pairM (t : Nm) (a b : Int) : Option Int := match sylPair a b with
  | some r => some r
  | none => (rowPair t a b).map fun i => (rw_ t.rows i).fr
theorem rowPair_at {t : Nm} {a b : Int} {k : Nat} (hk : k < t.rows.length) (h0 : ∀ i, i < k → rowHit t a b i = false) (h : rowHit t a b k = true) : rowPair t a b = some k := by
  unfold rowPair
  rw [List.find?_eq_some_iff_getElem]
  exact ⟨h, k, by simpa using hk, by simp, fun j hj => by simp [h0 j hj]⟩
theorem rowPair_none {t : Nm} {a b : Int} (h0 : ∀ i, i < t.rows.length → rowHit t a b i = false) : rowPair t a b = none := by
  unfold rowPair
  rw [List.find?_eq_none]
  intro i hi
  rw [h0 i (by simpa using hi)]
  decide
theorem rowPair_some {t : Nm} {a b : Int} {k : Nat} (h : rowPair t a b = some k) : k < t.rows.length ∧ rowHit t a b k = true := by
  unfold rowPair at h
  exact ⟨by simpa using List.mem_of_find?_eq_some h, List.find?_some h⟩
theorem pairM_syl {t : Nm} {a b r : Int} (h : sylPair a b = some r) : pairM t a b = some r := by unfold pairM; rw [h]
theorem pairM_row {t : Nm} {a b : Int} {k : Nat} (h : sylPair a b = none) (hk : k < t.rows.length) (h0 : ∀ i, i < k → rowHit t a b i = false) (hh : rowHit t a b k = true) : pairM t a b = some (rw_ t.rows k).fr := by
  unfold pairM; rw [h]; simp [rowPair_at hk h0 hh]
theorem pairM_none {t : Nm} {a b : Int} (h : sylPair a b = none) (h0 : ∀ i, i < t.rows.length → rowHit t a b i = false) : pairM t a b = none := by
  unfold pairM; rw [h]; simp [rowPair_none h0]
theorem pairM_cases {t : Nm} {a b r : Int} (h : pairM t a b = some r) : sylPair a b = some r ∨ ∃ k, k < t.rows.length ∧ rowHit t a b k = true ∧ (rw_ t.rows k).fr = r := by
  unfold pairM at h
  split at h
  · rename_i e; exact .inl (e.trans h)
  · obtain ⟨k, hk, e⟩ := Option.map_eq_some_iff.1 h
    obtain ⟨h1, h2⟩ := rowPair_some hk
    exact .inr ⟨k, h1, h2, e⟩
theorem rowHit_parts {t : Nm} {a b : Int} {k : Nat} (h : rowHit t a b k = true) : composesM t k = true ∧ (rw_ t.rows k).to0 = a ∧ (rw_ t.rows k).to1 = b := by
  unfold rowHit at h
  simpa using h
theorem composes_parts {t : Nm} {i : Nat} (h : composesM t i = true) : (rw_ t.rows i).to.length = 2 ∧ classOf t.cls (rw_ t.rows i).fr = 0 ∧ classOf t.cls (rw_ t.rows i).to0 = 0 := by
  unfold composesM at h
  simp only [Bool.and_eq_true, decide_eq_true_eq, beq_iff_eq] at h
  exact ⟨h.1.1.1, h.1.2, h.2⟩
/-- classes: from 0 on; 0 of Hangul -/
theorem class_ge {l : List Rg} (h : ∀ i, i < l.length → clsCode l i = 0) (r : Int) : 0 ≤ classOf l r := by
  unfold classOf find
  cases hf : l.find? fun x => decide (x.lo ≤ r) && decide (r ≤ x.hi) with
  | none => simp
  | some x =>
    have hm := List.mem_of_find?_eq_some hf
    obtain ⟨i, hi, rfl⟩ := List.mem_iff_getElem.1 hm
    have := h i hi
    unfold clsCode at this
    have e : l.getD i default = l[i] := by simp [List.getD, List.getElem?_eq_getElem hi]
    rw [e] at this
    simp only [Option.map_some, Option.getD_some]
    split at this
    · omega
    · cases this
theorem class_hang {l : List Rg} (h : ∀ i, i < l.length → clsCode l i = 0) {r : Int} (hr : hang r = true) : classOf l r = 0 := by
  unfold classOf find
  cases hf : l.find? fun x => decide (x.lo ≤ r) && decide (r ≤ x.hi) with
  | none => simp
  | some x =>
    exfalso
    have hm := List.mem_of_find?_eq_some hf
    have hx := List.find?_some hf
    obtain ⟨i, hi, rfl⟩ := List.mem_iff_getElem.1 hm
    have := h i hi
    unfold clsCode at this
    have e : l.getD i default = l[i] := by simp [List.getD, List.getElem?_eq_getElem hi]
    rw [e] at this
    simp only [Bool.and_eq_true, decide_eq_true_eq] at hx
    split at this
    · rename_i hh
      have := hangs_false _ _ hh.2.2 r hx.1 hx.2
      rw [this] at hr; cases hr
    · cases this
theorem sylPair_hang {a b r : Int} (h : sylPair a b = some r) : 44032 ≤ r ∧ r ≤ 55203 := by
  unfold sylPair at h
  split at h
  · simp only [Option.some.injEq] at h; omega
  · split at h
    · simp only [Option.some.injEq] at h; omega
    · cases h
theorem pair_class {t : Nm} (hc : ∀ i, i < t.cls.length → clsCode t.cls i = 0) {a b r : Int} (h : pairM t a b = some r) : classOf t.cls r = 0 := by
  rcases pairM_cases h with h | ⟨k, hk, h1, rfl⟩
  · have := sylPair_hang h
    exact class_hang hc (by unfold hang; rw [decide_eq_true_eq]; omega)
  · exact (composes_parts (rowHit_parts h1).1).2.1
theorem pair_right {t : Nm} (hc : ∀ i, i < t.rows.length → rowCode t.rows i = 0) {a b r : Int} (h : pairM t a b = some r) : rightR r = true := by
  rcases pairM_cases h with h | ⟨k, hk, h1, rfl⟩
  · have := sylPair_hang h
    unfold rightR; rw [decide_eq_true_eq]; omega
  · exact (may_right (rowCode_zero (hc k hk)).1).1
theorem pair_nonneg {t : Nm} (hc : ∀ i, i < t.rows.length → rowCode t.rows i = 0) {a b r : Int} (h : pairM t a b = some r) : 0 ≤ r := by
  have := pair_right hc h
  unfold rightR at this; rw [decide_eq_true_eq] at this; omega

section
variable (c : Int → Int) (pr : Int → Int → Option Int)
/-- the place of the last rune of class 0 among the first k; below 0: there is none -/
def lastIn (out : List Int) : Nat → Int
  | 0 => -1
  | k + 1 => if 0 < c (out.getD k 0) then lastIn out k else k
def lastZ (out : List Int) : Int := lastIn c out out.length
/-- is a rune tried with it? -/
def triedM (out : List Int) (r : Int) : Bool := decide (0 ≤ lastZ c out) && (List.range out.length).all fun k => decide ((k : Int) ≤ lastZ c out) || decide (c (out.getD k 0) < c r)
/-- one rune more is put to what there is -/
def stepM (out : List Int) (r : Int) : List Int :=
  if triedM c out r = true then match pr (out.getD (lastZ c out).toNat 0) r with
    | some x => out.set (lastZ c out).toNat x
    | none => out ++ [r]
  else out ++ [r]
/-- what runes are put together to -/
def putM (l : List Int) : List Int := l.foldl (stepM c pr) []
theorem lastIn_succ (out : List Int) (k : Nat) : lastIn c out (k + 1) = if 0 < c (out.getD k 0) then lastIn c out k else k := rfl
theorem lastIn_lt (out : List Int) (k : Nat) : lastIn c out k < k ∧ -1 ≤ lastIn c out k := by
  induction k with
  | zero => exact ⟨by simp [lastIn], by simp [lastIn]⟩
  | succ k ih => rw [lastIn_succ]; split <;> omega
theorem lastIn_above (out : List Int) (k : Nat) : ∀ j : Nat, lastIn c out k < j → j < k → 0 < c (out.getD j 0) := by
  induction k with
  | zero => intro j _ h; omega
  | succ k ih =>
    intro j h1 h2
    rw [lastIn_succ] at h1
    split at h1
    · rename_i hp
      rcases Nat.eq_or_lt_of_le (Nat.le_of_lt_succ h2) with rfl | g
      · exact hp
      · exact ih j h1 g
    · omega
theorem lastIn_at (out : List Int) (k : Nat) (h : 0 ≤ lastIn c out k) : ¬ 0 < c (out.getD (lastIn c out k).toNat 0) := by
  induction k with
  | zero => exact absurd h (by simp [lastIn])
  | succ k ih =>
    rw [lastIn_succ] at h ⊢
    split
    · rename_i hp
      rw [if_pos hp] at h
      exact ih h
    · rename_i hp; simpa using hp
theorem lastIn_eq (out : List Int) (k : Nat) (x : Int) (h1 : -1 ≤ x) (h2 : x < k) (h3 : 0 ≤ x → ¬ 0 < c (out.getD x.toNat 0)) (h4 : ∀ j : Nat, x < j → j < k → 0 < c (out.getD j 0)) : lastIn c out k = x := by
  induction k with
  | zero => show (-1 : Int) = x; omega
  | succ k ih =>
    rw [lastIn_succ]
    by_cases e : x = k
    · subst e
      rw [if_neg (by simpa using h3 (by omega))]
    · rw [if_pos (h4 k (by omega) (by omega))]
      exact ih (by omega) fun j a b => h4 j a (by omega)
theorem getD_append_lt (l l' : List Int) (j : Nat) (h : j < l.length) : (l ++ l').getD j 0 = l.getD j 0 := by
  simp [List.getD, List.getElem?_append_left h]
theorem getD_snoc (l : List Int) (r : Int) : (l ++ [r]).getD l.length 0 = r := by simp [List.getD]
theorem getD_set (l : List Int) (k j : Nat) (x : Int) (hk : k < l.length) : (l.set k x).getD j 0 = if j = k then x else l.getD j 0 := by
  simp only [List.getD]
  rw [List.getElem?_set]
  by_cases e : k = j
  · subst e; simp [hk]
  · rw [if_neg e, if_neg (fun h => e h.symm)]
theorem lastZ_snoc (out : List Int) (r : Int) : lastZ c (out ++ [r]) = if 0 < c r then lastZ c out else out.length := by
  unfold lastZ
  rw [List.length_append, List.length_singleton, lastIn_succ, getD_snoc]
  split
  · have h := lastIn_lt c out out.length
    refine lastIn_eq c _ _ _ h.2 h.1 (fun h0 => ?_) fun j a b => ?_
    · rw [getD_append_lt _ _ _ (by omega)]; exact lastIn_at c out _ h0
    · rw [getD_append_lt _ _ _ b]; exact lastIn_above c out _ j a b
  · rfl
theorem lastZ_set (out : List Int) (x : Int) (h0 : 0 ≤ lastZ c out) (hx : c x = 0) : lastZ c (out.set (lastZ c out).toNat x) = lastZ c out := by
  have h := lastIn_lt c out out.length
  have hh : (lastZ c out).toNat < out.length := by unfold lastZ at *; omega
  show lastIn c _ _ = _
  rw [List.length_set]
  refine lastIn_eq c _ _ _ h.2 h.1 (fun _ => ?_) fun j a b => ?_
  · rw [getD_set _ _ _ _ hh, if_pos rfl, hx]; omega
  · rw [getD_set _ _ _ _ hh, if_neg (by unfold lastZ at *; omega)]; exact lastIn_above c out _ j a b
/-- the highest class behind the last rune of class 0 -/
def mostM (out : List Int) : Int := ((out.drop (lastZ c out + 1).toNat).map c).foldl max 0
theorem foldl_max_le (l : List Int) (m x : Int) : l.foldl max m < x ↔ m < x ∧ ∀ y ∈ l, y < x := by
  induction l generalizing m with
  | nil => simp
  | cons y l ih =>
    rw [List.foldl_cons, ih]
    simp only [List.mem_cons, forall_eq_or_imp, Int.max_lt, and_assoc]
theorem most_lt (out : List Int) (x : Int) (h0 : 0 ≤ lastZ c out) : mostM c out < x ↔ 0 < x ∧ ∀ k : Nat, lastZ c out < k → k < out.length → c (out.getD k 0) < x := by
  unfold mostM
  rw [foldl_max_le]
  refine and_congr_right fun _ => ⟨fun h k h1 h2 => h _ ?_, fun h y hy => ?_⟩
  · refine List.mem_map.2 ⟨out.getD k 0, ?_, rfl⟩
    rw [List.mem_iff_getElem?]
    refine ⟨k - (lastZ c out + 1).toNat, ?_⟩
    rw [List.getElem?_drop, show (lastZ c out + 1).toNat + (k - (lastZ c out + 1).toNat) = k by omega]
    simp [List.getD, List.getElem?_eq_getElem h2]
  · obtain ⟨z, hz, rfl⟩ := List.mem_map.1 hy
    obtain ⟨i, hi⟩ := List.mem_iff_getElem?.1 hz
    rw [List.getElem?_drop] at hi
    have hlt : (lastZ c out + 1).toNat + i < out.length := by
      rcases Nat.lt_or_ge ((lastZ c out + 1).toNat + i) out.length with g | g
      · exact g
      · rw [List.getElem?_eq_none g] at hi; cases hi
    have := h ((lastZ c out + 1).toNat + i) (by omega) hlt
    rw [List.getD, hi] at this
    exact this
theorem tried_iff (out : List Int) (r : Int) : triedM c out r = true ↔ 0 ≤ lastZ c out ∧ ∀ k : Nat, lastZ c out < k → k < out.length → c (out.getD k 0) < c r := by
  unfold triedM
  simp only [Bool.and_eq_true, decide_eq_true_eq, List.all_eq_true, List.mem_range, Bool.or_eq_true]
  refine and_congr_right fun _ => ⟨fun h k h1 h2 => ?_, fun h k hk => ?_⟩
  · rcases h k h2 with g | g
    · omega
    · exact g
  · by_cases g : (k : Int) ≤ lastZ c out
    · exact .inl g
    · exact .inr (h k (by omega) hk)
/-- what the code tests -/
theorem reaches_iff (out : List Int) (r : Int) (h : 0 ≤ lastZ c out) (h0 : 0 ≤ c r) : triedM c out r = true ↔ (lastZ c out = (out.length : Int) - 1 ∨ mostM c out < c r) := by
  rw [tried_iff, most_lt c out _ h]
  have hl := lastIn_lt c out out.length
  constructor
  · rintro ⟨_, h2⟩
    by_cases e : lastZ c out = (out.length : Int) - 1
    · exact .inl e
    · refine .inr ⟨?_, h2⟩
      have hk : (lastZ c out + 1).toNat < out.length := by unfold lastZ at *; omega
      have h3 := h2 (lastZ c out + 1).toNat (by omega) hk
      have h4 := lastIn_above c out out.length (lastZ c out + 1).toNat (by unfold lastZ at *; omega) hk
      omega
  · rintro (e | ⟨_, h2⟩)
    · exact ⟨h, fun k a b => by omega⟩
    · exact ⟨h, h2⟩
theorem most_snoc_pos (out : List Int) (r : Int) (h : 0 < c r) : mostM c (out ++ [r]) = max (mostM c out) (c r) := by
  have hl := lastIn_lt c out out.length
  unfold mostM
  rw [lastZ_snoc, if_pos h, List.drop_append_of_le_length (by unfold lastZ; omega), List.map_append, List.foldl_append]
  rfl
theorem most_snoc_zero (out : List Int) (r : Int) (h : ¬ 0 < c r) : mostM c (out ++ [r]) = 0 := by
  unfold mostM
  rw [lastZ_snoc, if_neg h, List.drop_of_length_le (by simp)]
  rfl
theorem most_set (out : List Int) (x : Int) (h0 : 0 ≤ lastZ c out) (hx : c x = 0) : mostM c (out.set (lastZ c out).toNat x) = mostM c out := by
  unfold mostM
  rw [lastZ_set c out x h0 hx, List.drop_set_of_lt (by omega)]
theorem step_hit (out : List Int) (r x : Int) (h : triedM c out r = true) (hp : pr (out.getD (lastZ c out).toNat 0) r = some x) : stepM c pr out r = out.set (lastZ c out).toNat x := by
  unfold stepM; rw [if_pos h, hp]
theorem step_miss (out : List Int) (r : Int) (h : triedM c out r = true) (hp : pr (out.getD (lastZ c out).toNat 0) r = none) : stepM c pr out r = out ++ [r] := by
  unfold stepM; rw [if_pos h, hp]
theorem step_not (out : List Int) (r : Int) (h : triedM c out r = false) : stepM c pr out r = out ++ [r] := by
  unfold stepM; rw [if_neg (by rw [h]; decide)]
theorem step_len (out : List Int) (r : Int) : (stepM c pr out r).length ≤ out.length + 1 := by
  unfold stepM
  split
  · split <;> simp
  · simp
theorem put_len_aux (l out : List Int) : (l.foldl (stepM c pr) out).length ≤ out.length + l.length := by
  induction l generalizing out with
  | nil => simp
  | cons r l ih =>
    have h1 := ih (stepM c pr out r)
    have h2 := step_len c pr out r
    rw [List.foldl_cons, List.length_cons]; omega
theorem put_len (l : List Int) : (putM c pr l).length ≤ l.length := by
  have := put_len_aux c pr l []
  simpa [putM] using this
theorem put_next (l : List Int) (k : Nat) (hk : k < l.length) : putM c pr (l.take (k + 1)) = stepM c pr (putM c pr (l.take k)) (l.getD k 0) := by
  unfold putM
  rw [List.take_add_one, List.foldl_append]
  simp [List.getD, List.getElem?_eq_getElem hk]
end
end Go.Proofs.YtoceaielclomcaaRRGreatDoor
namespace Go.Proofs.YtoceaielclomcaaRRGreatDoor
open Go.RowKit

theorem ret_pair {a b : Int} {x y : Bool} (h : a = b) (h' : x = y) : Ending.returned (.tuple #[.int .i32 a, .bool x]) = .returned (.tuple #[.int .i32 b, .bool y]) := by rw [h, h']
def endlessM (a : Int) : Bool := decide (44032 ≤ a ∧ a ≤ 55203 ∧ (a - 44032) % 28 = 0)
set_option maxHeartbeats 1000000 in
theorem endless_any (a : Int) (w : World) : Calls Tryz.prog 160 #[.int .i32 a] w fun e w' => e = .returned (.bool (endlessM a)) ∧ w = w' := by
  by_cases h1 : 44032 ≤ a
  · by_cases h2 : a ≤ 55203
    · go_enter Tryz.func160, Tryz.ntmps160
      go_wp2
      go_ret
      exact ⟨ret_bool (by unfold endlessM; rw [Bool.eq_iff_iff]; simp; omega), rfl⟩
    · go_enter Tryz.func160, Tryz.ntmps160
      go_wp2
      go_ret
      exact ⟨ret_bool (by unfold endlessM; rw [Bool.eq_iff_iff]; simp; omega), rfl⟩
  · go_enter Tryz.func160, Tryz.ntmps160
    go_wp2
    go_ret
    exact ⟨ret_bool (by unfold endlessM; rw [Bool.eq_iff_iff]; simp; omega), rfl⟩
theorem syl_lv {a b : Int} (h1 : 4352 ≤ a) (h2 : a ≤ 4370) (h3 : 4449 ≤ b) (h4 : b ≤ 4469) : sylPair a b = some (44032 + ((a - 4352) * 21 + b - 4449) * 28) := by
  unfold sylPair; rw [if_pos ⟨h1, h2, h3, h4⟩]
theorem syl_t {a b : Int} (h : endlessM a = true) (h3 : 4520 ≤ b) (h4 : b ≤ 4546) : sylPair a b = some (a + b - 4520 + 1) := by
  unfold endlessM at h; rw [decide_eq_true_eq] at h
  unfold sylPair; rw [if_neg (by omega), if_pos ⟨h.1, h.2.1, h.2.2, h3, h4⟩]
theorem syl_no {a b : Int} (h : ¬ (4352 ≤ a ∧ a ≤ 4370 ∧ 4449 ≤ b ∧ b ≤ 4469)) (h' : endlessM a = false ∨ b < 4520 ∨ 4546 < b) : sylPair a b = none := by
  unfold endlessM at h'; rw [decide_eq_false_iff_not] at h'
  unfold sylPair; rw [if_neg h, if_neg (by omega)]
set_option maxHeartbeats 2000000 in
theorem sylPair_any (a b : Int) (w : World) : Calls Tryz.prog 150 #[.int .i32 a, .int .i32 b] w fun e w' => e = .returned (.tuple #[.int .i32 ((sylPair a b).getD 0), .bool (sylPair a b).isSome]) ∧ w = w' := by
  by_cases hA : 4352 ≤ a ∧ a ≤ 4370 ∧ 4449 ≤ b ∧ b ≤ 4469
  · obtain ⟨h1, h2, h3, h4⟩ := hA
    rw [syl_lv h1 h2 h3 h4]
    go_enter Tryz.func150, Tryz.ntmps150
    go_wp2
    go_ret2
    exact ⟨ret_pair (by simp) rfl, rfl⟩
  · have HE := Hid.mk' (endless_any a w)
    cases he : endlessM a
    · rw [syl_no hA (.inl he)]
      rw [he] at HE
      have HA := Hid.mk' hA
      clear he hA
      go_enter Tryz.func150, Tryz.ntmps150
      go_wp2_with (go_at_call 160; refine HE.out.mono ?_; rintro e w1 ⟨rfl, rfl⟩)
      all_goals first | (exfalso; have := HA.out; omega) | (go_ret2; exact ⟨rfl, rfl⟩)
    · rw [he] at HE
      have hE := he
      unfold endlessM at hE
      rw [decide_eq_true_eq] at hE
      obtain ⟨q1, q2, -⟩ := hE
      by_cases h3 : 4520 ≤ b
      · by_cases h4 : b ≤ 4546
        · rw [syl_t he h3 h4]
          clear he hA
          go_enter Tryz.func150, Tryz.ntmps150
          go_wp2_with (go_at_call 160; refine HE.out.mono ?_; rintro e w1 ⟨rfl, rfl⟩)
          go_ret2
          exact ⟨ret_pair (by simp) rfl, rfl⟩
        · rw [syl_no hA (.inr (.inr (by omega)))]
          clear he hA
          go_enter Tryz.func150, Tryz.ntmps150
          go_wp2_with (go_at_call 160; refine HE.out.mono ?_; rintro e w1 ⟨rfl, rfl⟩)
          go_ret2
          exact ⟨rfl, rfl⟩
      · rw [syl_no hA (.inr (.inl (by omega)))]
        clear he hA
        go_enter Tryz.func150, Tryz.ntmps150
        go_wp2_with (go_at_call 160; refine HE.out.mono ?_; rintro e w1 ⟨rfl, rfl⟩)
        go_ret2
        exact ⟨rfl, rfl⟩
end Go.Proofs.YtoceaielclomcaaRRGreatDoor
namespace Go.Proofs.YtoceaielclomcaaRRGreatDoor
open Go.RowKit

theorem hit_len {t : Nm} {a b : Int} {k : Nat} (h : (rw_ t.rows k).to.length ≠ 2) : rowHit t a b k = false := by
  unfold rowHit composesM
  rw [decide_eq_false h]; simp
theorem hit_to0 {t : Nm} {a b : Int} {k : Nat} (h : (rw_ t.rows k).to0 ≠ a) : rowHit t a b k = false := by
  unfold rowHit
  rw [beq_eq_false_iff_ne.2 h]; simp
theorem hit_to1 {t : Nm} {a b : Int} {k : Nat} (h : (rw_ t.rows k).to1 ≠ b) : rowHit t a b k = false := by
  unfold rowHit
  rw [beq_eq_false_iff_ne.2 h]; simp
theorem hit_comp {t : Nm} {a b : Int} {k : Nat} (h0 : (rw_ t.rows k).to0 = a) (h1 : (rw_ t.rows k).to1 = b) : rowHit t a b k = composesM t k := by
  unfold rowHit
  rw [h0, h1]; simp
theorem noHit_next {t : Nm} {a b : Int} {k : Nat} (h : ∀ i, i < k → rowHit t a b i = false) (e : rowHit t a b k = false) : ∀ i, i < k + 1 → rowHit t a b i = false := fun i hi => by
  rcases Nat.lt_or_ge i k with g | g
  · exact h i g
  · obtain rfl : i = k := by omega
    exact e
set_option maxRecDepth 20000 in
set_option maxHeartbeats 8000000 in
theorem pair_any (vr vc ve : Value) (t : Nm) (a b : Int) (w : World) (hR : Rows4 w vr t.rows) (hC : Tab w vc t.cls) (hE : Runes w ve t.exc) (hl : t.rows.length ≤ 2147483648) (hlc : t.cls.length ≤ 2147483648) (hle : t.exc.length ≤ 2147483648) (hm : Rises t.cls) (ha : Apart t.cls) (hx : ∀ i j, i < j → j < t.exc.length → t.exc.getD i 0 < t.exc.getD j 0) :
    Calls Tryz.prog 126 #[.agg #[vr, vc, ve], .int .i32 a, .int .i32 b] w fun e w' => e = .returned (.tuple #[.int .i32 ((pairM t a b).getD 0), .bool (pairM t a b).isSome]) ∧ Below w.heap.size w w' := by
  obtain ⟨W0, hW0, hsz, hb0, e0, e1, e2⟩ := norm_box w vr vc ve
  have HCM : Hid (∀ W i, Below w.heap.size w W → i < t.rows.length → _) := fun W i hb hi => composes_any vr vc ve t i W (hR.below hb) (hC.below hb) (hE.below hb) hl hlc hle hm ha hx hi
  have HSY := Hid.mk' (sylPair_any a b W0)
  have HT : Hid (∀ W, Below w.heap.size w W → Rows4 W vr t.rows) := fun W hb => hR.below hb
  obtain ⟨ra, rcap, rfl, -⟩ := id hR
  obtain ⟨ca, ccap, rfl, -⟩ := id hC
  obtain ⟨ea, ecap, rfl, -⟩ := id hE
  have HEE : Hid (∀ W, Below (w.heap.size + 1) W0 W → (W.cell? ⟨w.heap.size, 0, none⟩ = some (.slice ra t.rows.length rcap) ∧ W.cell? ⟨w.heap.size, 1, none⟩ = some (.slice ca t.cls.length ccap) ∧ W.cell? ⟨w.heap.size, 2, none⟩ = some (.slice ea t.exc.length ecap)) ∧ Below w.heap.size w W) := fun W hb => ⟨⟨(hb.cell (p := ⟨w.heap.size, 0, none⟩) (Nat.lt_succ_self _)).trans e0, (hb.cell (p := ⟨w.heap.size, 1, none⟩) (Nat.lt_succ_self _)).trans e1, (hb.cell (p := ⟨w.heap.size, 2, none⟩) (Nat.lt_succ_self _)).trans e2⟩, hb0.trans (hb.mono (Nat.le_succ _))⟩
  clear hR hC hE hm ha hx
  cases hs : sylPair a b with
  | some r =>
    rw [hs] at HSY
    rw [pairM_syl hs]
    clear hs
    go_enter Tryz.func126, Tryz.ntmps126
    go_wp2_with fail
    refine HSY.out.mono ?_
    rintro e w1 ⟨rfl, rfl⟩
    go_wp2
    go_ret2
    exact ⟨rfl, hb0⟩
  | none =>
    rw [hs] at HSY
    have HROW : Hid (∀ k, k < t.rows.length → (∀ i, i < k → rowHit t a b i = false) → rowHit t a b k = true → pairM t a b = some (rw_ t.rows k).fr) := fun k hk h0 hh => pairM_row hs hk h0 hh
    have HNO : Hid ((∀ i, i < t.rows.length → rowHit t a b i = false) → pairM t a b = none) := fun h => pairM_none hs h
    clear hs
    generalize pairM t a b = res at *
    go_enter Tryz.func126, Tryz.ntmps126
    go_wp2_with fail
    refine HSY.out.mono ?_
    rintro e w1 ⟨rfl, rfl⟩
    go_wp2
    go_loopw [23] (fun y wr => ∃ k : Nat, y = .int .i64 k ∧ k ≤ t.rows.length ∧ Hid (∀ i, i < k → rowHit t a b i = false) ∧ Hid (Below (w.heap.size + 1) W0 wr)) (fun y _ => t.rows.length - (intOf y).toNat)
    case atStart => exact ⟨0, rfl, Nat.zero_le _, fun i hi => by omega, by rw [← hsz]; exact Below.refl _ _⟩
    case round =>
      clear e0 e1 e2
      obtain ⟨k, rfl, hk, h0, HB⟩ := hrel
      obtain ⟨-, hbw⟩ := HEE.out wr HB.out
      have hszr : w.heap.size + 1 ≤ wr.heap.size := by have := HB.out.size; omega
      by_cases hlt : k < t.rows.length
      · obtain ⟨ra', rcap', ee, hTj⟩ := HT.out wr hbw
        obtain ⟨rfl, rfl⟩ : ra = ra' ∧ rcap = rcap' := by simpa using ee
        obtain ⟨rb, off, tv, rfl, d0, d1, ta, tcap, rfl, hRt⟩ := hTj k hlt
        clear ee hTj
        obtain ⟨WA, hWA⟩ : ∃ WA, wr.alloc (.cells #[.int .i32 (rw_ t.rows k).fr, .slice ta (rw_ t.rows k).to.length tcap] 74) = WA := ⟨_, rfl⟩
        have hbA : Below (w.heap.size + 1) W0 WA := by rw [← hWA]; exact HB.out.alloc hszr _
        have hbr : Below wr.heap.size wr WA := by rw [← hWA]; exact (Below.refl _ _).alloc (Nat.le_refl _) _
        have hszA : WA.heap.size = wr.heap.size + 1 := by rw [← hWA, World.size_alloc]
        have r0 : WA.cell? ⟨wr.heap.size, 0, none⟩ = some (.int .i32 (rw_ t.rows k).fr) := by rw [← hWA, World.cell?_alloc_new]; rfl
        have r1 : WA.cell? ⟨wr.heap.size, 1, none⟩ = some (.slice ta (rw_ t.rows k).to.length tcap) := by rw [← hWA, World.cell?_alloc_new]; rfl
        obtain ⟨⟨kA0, kA1, kA2⟩, hbwA⟩ := HEE.out WA hbA
        have HCk := Hid.mk' (HCM.out WA k hbwA hlt)
        have HBA := Hid.mk' hbA
        have hklz : (k : Int) < (t.rows.length : Int) := by omega
        by_cases h2 : (rw_ t.rows k).to.length = 2
        · obtain ⟨tb, toff, rfl, c0w⟩ := hRt 0 (by omega)
          obtain ⟨tb2, toff2, ee, c1w⟩ := hRt 1 (by omega)
          obtain ⟨rfl, rfl⟩ : tb = tb2 ∧ toff = toff2 := by simpa using ee
          rw [Nat.add_zero] at c0w
          have c0 : WA.cell? ⟨tb, toff, none⟩ = some (.int .i32 (rw_ t.rows k).to0) := (hbr.cell (p := ⟨tb, toff, none⟩) (lt_of_cell c0w)).trans c0w
          have c1 : WA.cell? ⟨tb, toff + 1, none⟩ = some (.int .i32 (rw_ t.rows k).to1) := (hbr.cell (p := ⟨tb, toff + 1, none⟩) (lt_of_cell c1w)).trans c1w
          rw [h2] at r1 d1 hWA
          have hN0 : Hid ((rw_ t.rows k).to0 ≠ a → ∀ i, i < k + 1 → rowHit t a b i = false) := fun h => noHit_next h0.out (hit_to0 h)
          have hN1 : Hid ((rw_ t.rows k).to1 ≠ b → ∀ i, i < k + 1 → rowHit t a b i = false) := fun h => noHit_next h0.out (hit_to1 h)
          have hN2 : Hid ((rw_ t.rows k).to0 = a → (rw_ t.rows k).to1 = b → composesM t k = false → ∀ i, i < k + 1 → rowHit t a b i = false) := fun h h' e => noHit_next h0.out ((hit_comp h h').trans e)
          have hY : Hid ((rw_ t.rows k).to0 = a → (rw_ t.rows k).to1 = b → composesM t k = true → res = some (rw_ t.rows k).fr) := fun h h' e => HROW.out k hlt h0.out ((hit_comp h h').trans e)
          clear hRt c0w c1w ee h2 h0 hbA hbwA
          generalize (rw_ t.rows k).to0 = t0 at *
          generalize (rw_ t.rows k).to1 = t1 at *
          generalize (rw_ t.rows k).fr = fr at *
          by_cases g0 : t0 = a
          · by_cases g1 : t1 = b
            · have b0 : (t0 == a) = true := by simp [g0]
              have b1 : (t1 == b) = true := by simp [g1]
              cases hcm : composesM t k
              · rw [hcm] at HCk
                have hnx := Hid.mk' (hN2.out g0 g1 hcm)
                clear hcm g0 g1 hN0 hN1 hN2 hY
                go_wp2_with fail
                refine HCk.out.mono ?_
                rintro e w2 ⟨rfl, hb2⟩
                have HB2 : Hid (Below (w.heap.size + 1) W0 w2) := HBA.out.trans (hb2.mono (by omega))
                go_wp2
                go_roundw
                case rel => exact ⟨k + 1, by go_num, by omega, hnx, HB2⟩
                case measure => simp [intOf]; omega
              · rw [hcm] at HCk
                have hres := hY.out g0 g1 hcm
                clear hcm g0 g1 hN0 hN1 hN2 hY
                subst hres
                go_wp2_with fail
                refine HCk.out.mono ?_
                rintro e w2 ⟨rfl, hb2⟩
                have HB2 : Hid (Below (w.heap.size + 1) W0 w2) := HBA.out.trans (hb2.mono (by omega))
                have r2 := (hb2.cell (p := ⟨wr.heap.size, 0, none⟩) (by show wr.heap.size < _; omega)).trans r0
                clear r0 r1 d0 d1 c0 c1 kA0 kA1 kA2
                go_wp2
                go_ret2
                exact ⟨rfl, (HEE.out _ HB2.out).2⟩
            · have b0 : (t0 == a) = true := by simp [g0]
              have b1 : (t1 == b) = false := by simp [g1]
              have hnx := Hid.mk' (hN1.out g1)
              clear g0 g1 hN0 hN1 hN2 hY HCk
              go_wp2
              go_roundw
              case rel => exact ⟨k + 1, by go_num, by omega, hnx, HBA⟩
              case measure => simp [intOf]; omega
          · have b0 : (t0 == a) = false := by simp [g0]
            have hnx := Hid.mk' (hN0.out g0)
            clear g0 hN0 hN1 hN2 hY HCk
            go_wp2
            go_roundw
            case rel => exact ⟨k + 1, by go_num, by omega, hnx, HBA⟩
            case measure => simp [intOf]; omega
        · have hnx := Hid.mk' (noHit_next h0.out (hit_len (a := a) (b := b) h2))
          have h2i : ((((rw_ t.rows k).to.length : Int)) == 2) = false := by simp; omega
          clear h2 hRt HCk h0
          generalize (rw_ t.rows k).to.length = tn at *
          generalize (rw_ t.rows k).fr = fr at *
          go_wp2
          go_roundw
          case rel => exact ⟨k + 1, by go_num, by omega, hnx, HBA⟩
          case measure => simp [intOf]; omega
      · obtain rfl : k = t.rows.length := by omega
        have hres := HNO.out h0.out
        subst hres
        go_wp2
        go_ret2
        exact ⟨rfl, hbw⟩
end Go.Proofs.YtoceaielclomcaaRRGreatDoor
namespace Go.Proofs.YtoceaielclomcaaRRGreatDoor
open Go.RowKit

theorem six_cell {w : World} {b : Nat} {x0 x1 x2 x3 x4 x5 : Value} {t : TypeId} (h : w.heap[b]? = some (.cells #[x0, x1, x2, x3, x4, x5] t (0, 0))) :
    w.cell? ⟨b, 0, none⟩ = some x0 ∧ w.cell? ⟨b, 1, none⟩ = some x1 ∧ w.cell? ⟨b, 2, none⟩ = some x2 ∧ w.cell? ⟨b, 3, none⟩ = some x3 ∧ w.cell? ⟨b, 4, none⟩ = some x4 ∧ w.cell? ⟨b, 5, none⟩ = some x5 := by simp [World.cell?, h]
theorem six_free {w : World} {b : Nat} {x0 x1 x2 x3 x4 x5 : Value} {t : TypeId} (h : w.heap[b]? = some (.cells #[x0, x1, x2, x3, x4, x5] t (0, 0))) :
    w.frozen? ⟨b, 3, none⟩ = false ∧ w.frozen? ⟨b, 4, none⟩ = false ∧ w.frozen? ⟨b, 5, none⟩ = false := by simp [World.frozen?, h]
theorem six_set3 {w : World} {b : Nat} {x0 x1 x2 x3 x4 x5 u : Value} {t : TypeId} (h : w.heap[b]? = some (.cells #[x0, x1, x2, x3, x4, x5] t (0, 0))) : (w.setCell ⟨b, 3, none⟩ u).heap[b]? = some (.cells #[x0, x1, x2, u, x4, x5] t (0, 0)) := by
  have hlt := lt_of_block h
  have h' : w.heap[b] = .cells #[x0, x1, x2, x3, x4, x5] t (0, 0) := by simpa [Array.getElem?_eq_getElem hlt] using h
  show (w.heap.modify b _)[b]? = _
  rw [Array.getElem?_eq_getElem (by simpa using hlt), Array.getElem_modify_self, h']
  rfl
theorem six_set4 {w : World} {b : Nat} {x0 x1 x2 x3 x4 x5 u : Value} {t : TypeId} (h : w.heap[b]? = some (.cells #[x0, x1, x2, x3, x4, x5] t (0, 0))) : (w.setCell ⟨b, 4, none⟩ u).heap[b]? = some (.cells #[x0, x1, x2, x3, u, x5] t (0, 0)) := by
  have hlt := lt_of_block h
  have h' : w.heap[b] = .cells #[x0, x1, x2, x3, x4, x5] t (0, 0) := by simpa [Array.getElem?_eq_getElem hlt] using h
  show (w.heap.modify b _)[b]? = _
  rw [Array.getElem?_eq_getElem (by simpa using hlt), Array.getElem_modify_self, h']
  rfl
theorem six_set5 {w : World} {b : Nat} {x0 x1 x2 x3 x4 x5 u : Value} {t : TypeId} (h : w.heap[b]? = some (.cells #[x0, x1, x2, x3, x4, x5] t (0, 0))) : (w.setCell ⟨b, 5, none⟩ u).heap[b]? = some (.cells #[x0, x1, x2, x3, x4, u] t (0, 0)) := by
  have hlt := lt_of_block h
  have h' : w.heap[b] = .cells #[x0, x1, x2, x3, x4, x5] t (0, 0) := by simpa [Array.getElem?_eq_getElem hlt] using h
  show (w.heap.modify b _)[b]? = _
  rw [Array.getElem?_eq_getElem (by simpa using hlt), Array.getElem_modify_self, h']
  rfl
/-- what was put together so far: the block B holds the norm, the runes, the last place of class 0, the highest class behind -/
def MadeIs (w : World) (B : Nat) (vr vc ve : Value) (out : List Int) (last most : Int) : Prop :=
  ∃ v, w.heap[B]? = some (.cells #[vr, vc, ve, v, .int .i64 last, .int .i64 most] 151 (0, 0)) ∧ w.ownsRow (B + 1) 21 1 v out.length (out.map (Value.int .i32))
theorem MadeIs.below {w w' : World} {B : Nat} {vr vc ve : Value} {out : List Int} {last most : Int} (h : MadeIs w B vr vc ve out last most) (hb : Below w.heap.size w w') : MadeIs w' B vr vc ve out last most := by
  obtain ⟨v, h1, h2⟩ := h
  exact ⟨v, (hb.block B (lt_of_block h1)).trans h1, owns_below h2 hb⟩
set_option maxRecDepth 20000 in
set_option maxHeartbeats 4000000 in
theorem reaches_any (B : Nat) (vr vc ve : Value) (out : List Int) (last most cl : Int) (w : World) (h : MadeIs w B vr vc ve out last most) (hl : out.length ≤ 268435456) :
    Calls Tryz.prog 125 #[.pointer (some ⟨B, 0, none⟩), .int .i64 cl] w fun e w' => e = .returned (.bool (decide (0 ≤ last) && (last == (out.length : Int) - 1 || decide (most < cl)))) ∧ Below w.heap.size w w' := by
  obtain ⟨v, h1, h2⟩ := h
  obtain ⟨a, c, rfl⟩ := own_slice h2
  obtain ⟨-, -, -, c3, c4, c5⟩ := six_cell h1
  clear h1 h2
  by_cases g1 : 0 ≤ last
  · have d1 : decide (0 ≤ last) = true := decide_eq_true g1
    cases g2 : (last == (out.length : Int) - 1)
    · go_enter Tryz.func125, Tryz.ntmps125
      go_wp2
      go_region
      all_goals
        go_wp2
        go_ret
        exact ⟨ret_bool (by simp [d1]), (Below.refl _ _).drew⟩
    · go_enter Tryz.func125, Tryz.ntmps125
      go_wp2
      go_region
      all_goals
        go_wp2
        go_ret
        exact ⟨ret_bool (by simp [d1]), (Below.refl _ _).drew⟩
  · have d1 : decide (0 ≤ last) = false := decide_eq_false g1
    go_enter Tryz.func125, Tryz.ntmps125
    go_wp2
    go_region
    all_goals
      go_wp2
      go_ret
      exact ⟨ret_bool (by simp [d1]), (Below.refl _ _).drew⟩
end Go.Proofs.YtoceaielclomcaaRRGreatDoor
namespace Go.Proofs.YtoceaielclomcaaRRGreatDoor
open Go.RowKit

theorem reachesB (c : Int → Int) (out : List Int) (r : Int) (h0 : 0 ≤ c r) : (decide (0 ≤ lastZ c out) && (lastZ c out == (out.length : Int) - 1 || decide (mostM c out < c r))) = triedM c out r := by
  rw [Bool.eq_iff_iff]
  by_cases h : 0 ≤ lastZ c out
  · rw [reaches_iff c out r h h0]
    simp [h]
  · simp [h, tried_iff c out r]
/-- a rune's place in what was put together: the struct's field is set behind an append -/
theorem made_push {B : Nat} {out : List Int} {wr w1 : World} {v v' x0 x1 x2 x4 x5 : Value} {T : TypeId} (r : Int) (tmp : Obj)
    (hv : wr.heap[B]? = some (.cells #[x0, x1, x2, v, x4, x5] T (0, 0))) (hown : wr.ownsRow (B + 1) 21 1 v out.length (out.map (Value.int .i32)))
    (hown' : w1.ownsRow (B + 1) 21 1 v' (out.length + 1) (out.map (Value.int .i32) ++ [.int .i32 r])) (hgrow : (wr.alloc tmp).grownBy w1 v.ownBlock) :
    (∃ g' cap', v' = .slice (some ⟨g', 0, none⟩) (out.length + 1) cap') ∧ w1.cell? ⟨B, 3, none⟩ = some v ∧ w1.frozen? ⟨B, 3, none⟩ = false ∧ (w1.setCell ⟨B, 3, none⟩ v').heap[B]? = some (.cells #[x0, x1, x2, v', x4, x5] T (0, 0)) ∧ (w1.setCell ⟨B, 3, none⟩ v').ownsRow (B + 1) 21 1 v' (out ++ [r]).length ((out ++ [r]).map (Value.int .i32)) ∧ Below B wr (w1.setCell ⟨B, 3, none⟩ v') := by
  have hB := lt_of_block hv
  have hlt : ∀ j, v.ownBlock = some j → B + 1 ≤ j := fun j hj => (hown.lt j hj).1
  have hv1 : w1.heap[B]? = some (.cells #[x0, x1, x2, v, x4, x5] T (0, 0)) := by
    rw [hgrow.block B (by simp; omega) (fun e => by have := hlt B e.symm; omega), Below.heap_alloc _ _ _ hB]; exact hv
  have hne' : v'.ownBlock ≠ some B := fun e => by have := (hown'.lt B e).1; omega
  refine ⟨?_, (six_cell hv1).2.2.2.1, (six_free hv1).1, six_set3 hv1, ?_, ?_⟩
  · rcases hown'.2 with ⟨_, h0⟩ | ⟨g, cap, cur, rfl, _, _⟩
    · omega
    · exact ⟨g, cap, rfl⟩
  · have := ownsRow_setCell_other hown' (a := ⟨B, 3, none⟩) hne' v'
    simpa using this
  · exact Below.setCell (p := ⟨B, 3, none⟩) (((Below.refl B wr).alloc (by omega) _).grown hgrow (by simp; omega) (fun j hj => by have := hlt j hj; omega)) (Nat.le_refl B) _
set_option maxRecDepth 100000 in
set_option maxHeartbeats 8000000 in
/-- nothing is composed: the rune stands at the end -/
theorem add_end (B : Nat) (a : Option Addr) (cap : Nat) (vc ve : Value) (t : Nm) (out : List Int) (r : Int) (w0 w : World) (hR : Rows4 w0 (.slice a t.rows.length cap) t.rows) (hC : Tab w0 vc t.cls) (hE : Runes w0 ve t.exc) (hl : t.rows.length ≤ 2147483648) (hlc : t.cls.length ≤ 2147483648) (hle : t.exc.length ≤ 2147483648) (hm : Rises t.cls) (ha : Apart t.cls) (hx : ∀ i j, i < j → j < t.exc.length → t.exc.getD i 0 < t.exc.getD j 0) (h0 : 0 ≤ classOf t.cls r)
    (hb : Below w0.heap.size w0 w) (h : MadeIs w B (.slice a t.rows.length cap) vc ve out (lastZ (classOf t.cls) out) (mostM (classOf t.cls) out)) (hlo : out.length ≤ 2147483) (hs : triedM (classOf t.cls) out r = true → pairM t (out.getD (lastZ (classOf t.cls) out).toNat 0) r = none) :
    Calls Tryz.prog 89 #[.pointer (some ⟨B, 0, none⟩), .int .i32 r] w fun e w' => e = .returned (.tuple #[]) ∧ MadeIs w' B (.slice a t.rows.length cap) vc ve (out ++ [r]) (lastZ (classOf t.cls) (out ++ [r])) (mostM (classOf t.cls) (out ++ [r])) ∧ Below B w w' := by
  obtain ⟨i0, hi, hz0, hz1, hz2⟩ := info_parts Tryz.infoRune
  have HK := Hid.mk' (class_any (.slice a t.rows.length cap) vc ve t.cls r w (hC.below hb) hlc hm ha)
  have HRe : Hid (∀ W, Below w.heap.size w W → _) := fun W hW => reaches_any B (.slice a t.rows.length cap) vc ve out (lastZ (classOf t.cls) out) (mostM (classOf t.cls) out) (classOf t.cls r) W (h.below hW) (by omega)
  rw [reachesB (classOf t.cls) out r h0] at HRe
  have HPr : Hid (∀ W x, Below w.heap.size w W → _) := fun W x hW => pair_any (.slice a t.rows.length cap) vc ve t x r W (hR.below (hb.trans (hW.mono hb.size))) (hC.below (hb.trans (hW.mono hb.size))) (hE.below (hb.trans (hW.mono hb.size))) hl hlc hle hm ha hx
  have HM : Hid (∀ W, Below w.heap.size w W → MadeIs W B (.slice a t.rows.length cap) vc ve out (lastZ (classOf t.cls) out) (mostM (classOf t.cls) out)) := fun W hW => h.below hW
  have hL1 := lastZ_snoc (classOf t.cls) out r
  have hlz := lastIn_lt (classOf t.cls) out out.length
  have hBs : B < w.heap.size := by obtain ⟨v, h1, -⟩ := h; exact lt_of_block h1
  -- the last step, from wherever it is come to
  have HLL : Hid (¬ 0 < classOf t.cls r → lastZ (classOf t.cls) (out ++ [r]) = out.length ∧ mostM (classOf t.cls) (out ++ [r]) = 0) := fun hn => ⟨by rw [hL1, if_neg hn], most_snoc_zero _ _ _ hn⟩
  have HLP : Hid (0 < classOf t.cls r → lastZ (classOf t.cls) (out ++ [r]) = lastZ (classOf t.cls) out ∧ mostM (classOf t.cls) (out ++ [r]) = max (mostM (classOf t.cls) out) (classOf t.cls r)) := fun hp => ⟨by rw [hL1, if_pos hp], most_snoc_pos _ _ _ hp⟩
  obtain ⟨ca, ccap, rfl, -⟩ := id hC
  obtain ⟨ea, ecap, rfl, -⟩ := id hE
  have HFIN : Hid (∀ W, Below w.heap.size w W → MadeIs W B (.slice a t.rows.length cap) (.slice ca t.cls.length ccap) (.slice ea t.exc.length ecap) out (lastZ (classOf t.cls) out) (mostM (classOf t.cls) out)) := HM
  clear hL1 hR hC hE hm ha hx hb h HM
  generalize lastZ (classOf t.cls) (out ++ [r]) = last' at *
  generalize mostM (classOf t.cls) (out ++ [r]) = most' at *
  generalize mostM (classOf t.cls) out = most at *
  have hlast : -1 ≤ lastZ (classOf t.cls) out ∧ lastZ (classOf t.cls) out < out.length := ⟨hlz.2, hlz.1⟩
  clear hlz
  cases htr : triedM (classOf t.cls) out r
  · rw [htr] at HRe
    generalize lastZ (classOf t.cls) out = last at *
    clear htr hs HPr
    by_cases hcr : 0 < classOf t.cls r
    · obtain ⟨rfl, rfl⟩ := HLP.out hcr
      generalize classOf t.cls r = cr at *
      have hcz : (cr == 0) = false := by simp; omega
      clear HLL HLP
      obtain ⟨v0, q1, -⟩ := HFIN.out w (Below.refl _ _)
      obtain ⟨p0, p1, p2, -, -, -⟩ := six_cell q1
      clear q1
      go_enter Tryz.func89, Tryz.ntmps89
      go_wp2_with fail
      refine HK.out.mono ?_
      rintro e w1 ⟨rfl, hb1⟩
      go_wp2_with fail
      refine (HRe.out w1 hb1).mono ?_
      rintro e w2 ⟨rfl, hb2⟩
      have hb12 := hb1.trans (hb2.mono hb1.size)
      obtain ⟨v, h1, h2⟩ := HFIN.out w2 hb12
      obtain ⟨va, vcp, rfl⟩ := own_slice h2
      obtain ⟨-, -, -, c3, c4, c5⟩ := six_cell h1
      obtain ⟨f3, f4, f5⟩ := six_free h1
      have h1' := six_set5 (u := .int .i64 (max most cr)) h1
      have h2' := ownsRow_setCell_other h2 (a := ⟨B, 5, none⟩) (fun e => by have := (h2.lt _ e).1; simp at this; omega) (.int .i64 (max most cr))
      have hb5 : Below B w (w2.setCell ⟨B, 5, none⟩ (.int .i64 (max most cr))) := (hb12.mono (by omega)).setCell (p := ⟨B, 5, none⟩) (Nat.le_refl B) _
      clear p0 p1 p2
      have hs2 : B < w2.heap.size := lt_of_block h1
      have HCN : Hid (∀ j u, [Value.int .i32 r][j]? = some u → ((w2.setCell ⟨B, 5, none⟩ (.int .i64 (max most cr))).alloc (.cells #[.int .i32 r] 21)).cell? ((⟨w2.heap.size, 0, none⟩ : Addr).add j) = some u) := by
        have := cell_one_new (w2.setCell ⟨B, 5, none⟩ (.int .i64 (max most cr))) (.int .i32 r) 21
        rwa [World.size_setCell] at this
      go_wp2_with (at_builtin; refine wpList_append_own _ rfl _ _ 37 rfl (B + 1) 21 i0 (.int .i32 0) 1 4 Tryz.underlying37 hi hz0 hz1 hz2 rfl (by decide) _ _ _ rfl (h2'.alloc _) ⟨w2.heap.size, 0, none⟩ 1 1 [.int .i32 r] rfl rfl HCN.out (by intro u hu; simp at hu; subst hu; rfl) (by unfold maxLen; omega) (by omega) (by simp; omega) ?_; intro v' w3 hown' hgrow _; obtain ⟨⟨g', cap', rfl⟩, cW3, fW3, hh1, hh2, hbel⟩ := made_push r _ h1' h2' hown' hgrow; clear hown' hgrow)
      go_end0
      exact ⟨rfl, ⟨_, hh1, hh2⟩, hb5.trans hbel⟩
    · obtain ⟨rfl, rfl⟩ := HLL.out hcr
      generalize classOf t.cls r = cr at *
      have hcz : (cr == 0) = true := by simp; omega
      clear HLL HLP
      obtain ⟨v0, q1, -⟩ := HFIN.out w (Below.refl _ _)
      obtain ⟨p0, p1, p2, -, -, -⟩ := six_cell q1
      clear q1
      go_enter Tryz.func89, Tryz.ntmps89
      go_wp2_with fail
      refine HK.out.mono ?_
      rintro e w1 ⟨rfl, hb1⟩
      go_wp2_with fail
      refine (HRe.out w1 hb1).mono ?_
      rintro e w2 ⟨rfl, hb2⟩
      have hb12 := hb1.trans (hb2.mono hb1.size)
      obtain ⟨v, h1, h2⟩ := HFIN.out w2 hb12
      obtain ⟨va, vcp, rfl⟩ := own_slice h2
      obtain ⟨-, -, -, c3, c4, c5⟩ := six_cell h1
      obtain ⟨f3, f4, f5⟩ := six_free h1
      have h1' := six_set5 (u := .int .i64 0) (six_set4 (u := .int .i64 (out.length : Int)) h1)
      have h2' := ownsRow_setCell_other (ownsRow_setCell_other h2 (a := ⟨B, 4, none⟩) (fun e => by have := (h2.lt _ e).1; simp at this; omega) (.int .i64 (out.length : Int))) (a := ⟨B, 5, none⟩) (fun e => by have := (h2.lt _ e).1; simp at this; omega) (.int .i64 0)
      have hb5 : Below B w ((w2.setCell ⟨B, 4, none⟩ (.int .i64 (out.length : Int))).setCell ⟨B, 5, none⟩ (.int .i64 0)) := ((hb12.mono (by omega)).setCell (p := ⟨B, 4, none⟩) (Nat.le_refl B) _).setCell (p := ⟨B, 5, none⟩) (Nat.le_refl B) _
      clear p0 p1 p2
      have hs2 : B < w2.heap.size := lt_of_block h1
      have HCN : Hid (∀ j u, [Value.int .i32 r][j]? = some u → (((w2.setCell ⟨B, 4, none⟩ (.int .i64 (out.length : Int))).setCell ⟨B, 5, none⟩ (.int .i64 0)).alloc (.cells #[.int .i32 r] 21)).cell? ((⟨w2.heap.size, 0, none⟩ : Addr).add j) = some u) := by
        have := cell_one_new ((w2.setCell ⟨B, 4, none⟩ (.int .i64 (out.length : Int))).setCell ⟨B, 5, none⟩ (.int .i64 0)) (.int .i32 r) 21
        rwa [World.size_setCell, World.size_setCell] at this
      go_wp2_with (at_builtin; refine wpList_append_own _ rfl _ _ 37 rfl (B + 1) 21 i0 (.int .i32 0) 1 4 Tryz.underlying37 hi hz0 hz1 hz2 rfl (by decide) _ _ _ rfl (h2'.alloc _) ⟨w2.heap.size, 0, none⟩ 1 1 [.int .i32 r] rfl rfl HCN.out (by intro u hu; simp at hu; subst hu; rfl) (by unfold maxLen; omega) (by omega) (by simp; omega) ?_; intro v' w3 hown' hgrow _; obtain ⟨⟨g', cap', rfl⟩, cW3, fW3, hh1, hh2, hbel⟩ := made_push r _ h1' h2' hown' hgrow; clear hown' hgrow)
      go_end0
      exact ⟨rfl, ⟨_, hh1, hh2⟩, hb5.trans hbel⟩
  · rw [htr] at HRe
    have hpn := hs htr
    have h0l := ((tried_iff (classOf t.cls) out r).1 htr).1
    obtain ⟨k, hk⟩ : ∃ k : Nat, lastZ (classOf t.cls) out = k := ⟨(lastZ (classOf t.cls) out).toNat, by omega⟩
    rw [hk] at hpn HLP HFIN hlast
    rw [Int.toNat_natCast] at hpn
    have HPx : Hid (∀ W, Below w.heap.size w W → _) := fun W hW => HPr.out W (out.getD k 0) hW
    rw [hpn] at HPx
    have hkl : k < out.length := by omega
    have hkz : (k : Int) < (out.length : Int) := by omega
    obtain ⟨v0, q1, q2⟩ := HFIN.out w (Below.refl _ _)
    obtain ⟨g, vcp0, rfl⟩ : ∃ g c, v0 = .slice (some ⟨g, 0, none⟩) out.length c := by
      rcases q2.2 with ⟨-, e⟩ | ⟨g, c, cur, rfl, -, -⟩
      · omega
      · exact ⟨g, c, rfl⟩
    have qr : w.cell? ⟨g, k, none⟩ = some (.int .i32 (out.getD k 0)) := by
      rw [q2.cellAt k (by omega), List.getElem?_map, List.getElem?_eq_getElem hkl]
      simp [List.getD, List.getElem?_eq_getElem hkl]
    generalize out.getD k 0 = x at *
    have HSS : Hid (∀ W, Below w.heap.size w W → W.cell? ⟨B, 0, none⟩ = some (.slice a t.rows.length cap) ∧ W.cell? ⟨B, 1, none⟩ = some (.slice ca t.cls.length ccap) ∧ W.cell? ⟨B, 2, none⟩ = some (.slice ea t.exc.length ecap) ∧ W.cell? ⟨B, 3, none⟩ = some (.slice (some ⟨g, 0, none⟩) out.length vcp0) ∧ W.cell? ⟨B, 4, none⟩ = some (.int .i64 (k : Int)) ∧ W.cell? ⟨g, k, none⟩ = some (.int .i32 x)) := fun W hW => by
      obtain ⟨p0, p1, p2, p3, p4, -⟩ := six_cell q1
      exact ⟨(hW.cell (lt_of_cell p0)).trans p0, (hW.cell (lt_of_cell p1)).trans p1, (hW.cell (lt_of_cell p2)).trans p2, (hW.cell (lt_of_cell p3)).trans p3, (hW.cell (lt_of_cell p4)).trans p4, (hW.cell (lt_of_cell qr)).trans qr⟩
    clear htr hs HPr hpn h0l hk q1 q2 qr
    by_cases hcr : 0 < classOf t.cls r
    · obtain ⟨rfl, rfl⟩ := HLP.out hcr
      generalize classOf t.cls r = cr at *
      have hcz : (cr == 0) = false := by simp; omega
      clear HLL HLP
      obtain ⟨v0, q1, -⟩ := HFIN.out w (Below.refl _ _)
      obtain ⟨p0, p1, p2, -, -, -⟩ := six_cell q1
      clear q1
      go_enter Tryz.func89, Tryz.ntmps89
      go_wp2_with fail
      refine HK.out.mono ?_
      rintro e w1 ⟨rfl, hb1⟩
      go_wp2_with fail
      refine (HRe.out w1 hb1).mono ?_
      rintro e w2 ⟨rfl, hb2⟩
      have hb12 := hb1.trans (hb2.mono hb1.size)
      have hzb : Below w.heap.size w w2.drew := hb12.drew
      have hz := HSS.out _ hzb
      go_wp2
      go_region_held3 (fun w' => w'.cell? ⟨B, 0, none⟩ = some (.slice a t.rows.length cap) ∧ w'.cell? ⟨B, 1, none⟩ = some (.slice ca t.cls.length ccap) ∧ w'.cell? ⟨B, 2, none⟩ = some (.slice ea t.exc.length ecap) ∧ w'.cell? ⟨B, 3, none⟩ = some (.slice (some ⟨g, 0, none⟩) out.length vcp0) ∧ w'.cell? ⟨B, 4, none⟩ = some (.int .i64 (k : Int)) ∧ w'.cell? ⟨g, k, none⟩ = some (.int .i32 x)) (first | exact hz | exact HSS.out _ (by assumption)) (first | (go_at_call 126; refine (HPx.out _ ?_).mono ?_; assumption; rintro e wA ⟨rfl, hbA⟩; have hzA : Below w.heap.size w wA := hzb.trans (hbA.mono hzb.size)))
      clear hz hzb hb1 hb2 hb12 hbA
      obtain ⟨v, h1, h2⟩ := HFIN.out wA hzA
      obtain rfl : v = .slice (some ⟨g, 0, none⟩) out.length vcp0 := by
        have e1 := (six_cell h1).2.2.2.1
        have e2 := (HSS.out wA hzA).2.2.2.1
        rw [e1] at e2
        exact Option.some.inj e2
      obtain ⟨-, -, -, c3, c4, c5⟩ := six_cell h1
      obtain ⟨f3, f4, f5⟩ := six_free h1
      have h1' := six_set5 (u := .int .i64 (max most cr)) h1
      have h2' := ownsRow_setCell_other h2 (a := ⟨B, 5, none⟩) (fun e => by have := (h2.lt _ e).1; simp at this; omega) (.int .i64 (max most cr))
      have hb5 : Below B w (wA.setCell ⟨B, 5, none⟩ (.int .i64 (max most cr))) := (hzA.mono (by omega)).setCell (p := ⟨B, 5, none⟩) (Nat.le_refl B) _
      have hs2 : B < wA.heap.size := lt_of_block h1
      have HCN : Hid (∀ j u, [Value.int .i32 r][j]? = some u → ((wA.setCell ⟨B, 5, none⟩ (.int .i64 (max most cr))).alloc (.cells #[.int .i32 r] 21)).cell? ((⟨wA.heap.size, 0, none⟩ : Addr).add j) = some u) := by
        have := cell_one_new (wA.setCell ⟨B, 5, none⟩ (.int .i64 (max most cr))) (.int .i32 r) 21
        rwa [World.size_setCell] at this
      go_wp2_with (at_builtin; refine wpList_append_own _ rfl _ _ 37 rfl (B + 1) 21 i0 (.int .i32 0) 1 4 Tryz.underlying37 hi hz0 hz1 hz2 rfl (by decide) _ _ _ rfl (h2'.alloc _) ⟨wA.heap.size, 0, none⟩ 1 1 [.int .i32 r] rfl rfl HCN.out (by intro u hu; simp at hu; subst hu; rfl) (by unfold maxLen; omega) (by omega) (by simp; omega) ?_; intro v' w3 hown' hgrow _; obtain ⟨⟨g', cap', rfl⟩, cW3, fW3, hh1, hh2, hbel⟩ := made_push r _ h1' h2' hown' hgrow; clear hown' hgrow)
      go_end0
      exact ⟨rfl, ⟨_, hh1, hh2⟩, hb5.trans hbel⟩
    · obtain ⟨rfl, rfl⟩ := HLL.out hcr
      generalize classOf t.cls r = cr at *
      have hcz : (cr == 0) = true := by simp; omega
      clear HLL HLP
      obtain ⟨v0, q1, -⟩ := HFIN.out w (Below.refl _ _)
      obtain ⟨p0, p1, p2, -, -, -⟩ := six_cell q1
      clear q1
      go_enter Tryz.func89, Tryz.ntmps89
      go_wp2_with fail
      refine HK.out.mono ?_
      rintro e w1 ⟨rfl, hb1⟩
      go_wp2_with fail
      refine (HRe.out w1 hb1).mono ?_
      rintro e w2 ⟨rfl, hb2⟩
      have hb12 := hb1.trans (hb2.mono hb1.size)
      have hzb : Below w.heap.size w w2.drew := hb12.drew
      have hz := HSS.out _ hzb
      go_wp2
      go_region_held3 (fun w' => w'.cell? ⟨B, 0, none⟩ = some (.slice a t.rows.length cap) ∧ w'.cell? ⟨B, 1, none⟩ = some (.slice ca t.cls.length ccap) ∧ w'.cell? ⟨B, 2, none⟩ = some (.slice ea t.exc.length ecap) ∧ w'.cell? ⟨B, 3, none⟩ = some (.slice (some ⟨g, 0, none⟩) out.length vcp0) ∧ w'.cell? ⟨B, 4, none⟩ = some (.int .i64 (k : Int)) ∧ w'.cell? ⟨g, k, none⟩ = some (.int .i32 x)) (first | exact hz | exact HSS.out _ (by assumption)) (first | (go_at_call 126; refine (HPx.out _ ?_).mono ?_; assumption; rintro e wA ⟨rfl, hbA⟩; have hzA : Below w.heap.size w wA := hzb.trans (hbA.mono hzb.size)))
      clear hz hzb hb1 hb2 hb12 hbA
      obtain ⟨v, h1, h2⟩ := HFIN.out wA hzA
      obtain rfl : v = .slice (some ⟨g, 0, none⟩) out.length vcp0 := by
        have e1 := (six_cell h1).2.2.2.1
        have e2 := (HSS.out wA hzA).2.2.2.1
        rw [e1] at e2
        exact Option.some.inj e2
      obtain ⟨-, -, -, c3, c4, c5⟩ := six_cell h1
      obtain ⟨f3, f4, f5⟩ := six_free h1
      have h1' := six_set5 (u := .int .i64 0) (six_set4 (u := .int .i64 (out.length : Int)) h1)
      have h2' := ownsRow_setCell_other (ownsRow_setCell_other h2 (a := ⟨B, 4, none⟩) (fun e => by have := (h2.lt _ e).1; simp at this; omega) (.int .i64 (out.length : Int))) (a := ⟨B, 5, none⟩) (fun e => by have := (h2.lt _ e).1; simp at this; omega) (.int .i64 0)
      have hb5 : Below B w ((wA.setCell ⟨B, 4, none⟩ (.int .i64 (out.length : Int))).setCell ⟨B, 5, none⟩ (.int .i64 0)) := ((hzA.mono (by omega)).setCell (p := ⟨B, 4, none⟩) (Nat.le_refl B) _).setCell (p := ⟨B, 5, none⟩) (Nat.le_refl B) _
      have hs2 : B < wA.heap.size := lt_of_block h1
      have HCN : Hid (∀ j u, [Value.int .i32 r][j]? = some u → (((wA.setCell ⟨B, 4, none⟩ (.int .i64 (out.length : Int))).setCell ⟨B, 5, none⟩ (.int .i64 0)).alloc (.cells #[.int .i32 r] 21)).cell? ((⟨wA.heap.size, 0, none⟩ : Addr).add j) = some u) := by
        have := cell_one_new ((wA.setCell ⟨B, 4, none⟩ (.int .i64 (out.length : Int))).setCell ⟨B, 5, none⟩ (.int .i64 0)) (.int .i32 r) 21
        rwa [World.size_setCell, World.size_setCell] at this
      go_wp2_with (at_builtin; refine wpList_append_own _ rfl _ _ 37 rfl (B + 1) 21 i0 (.int .i32 0) 1 4 Tryz.underlying37 hi hz0 hz1 hz2 rfl (by decide) _ _ _ rfl (h2'.alloc _) ⟨wA.heap.size, 0, none⟩ 1 1 [.int .i32 r] rfl rfl HCN.out (by intro u hu; simp at hu; subst hu; rfl) (by unfold maxLen; omega) (by omega) (by simp; omega) ?_; intro v' w3 hown' hgrow _; obtain ⟨⟨g', cap', rfl⟩, cW3, fW3, hh1, hh2, hbel⟩ := made_push r _ h1' h2' hown' hgrow; clear hown' hgrow)
      go_end0
      exact ⟨rfl, ⟨_, hh1, hh2⟩, hb5.trans hbel⟩
end Go.Proofs.YtoceaielclomcaaRRGreatDoor
namespace Go.Proofs.YtoceaielclomcaaRRGreatDoor
open Go.RowKit

set_option maxRecDepth 100000 in
set_option maxHeartbeats 8000000 in
theorem add_hit (B : Nat) (a : Option Addr) (cap : Nat) (vc ve : Value) (t : Nm) (out : List Int) (r : Int) (w0 w : World) (hR : Rows4 w0 (.slice a t.rows.length cap) t.rows) (hC : Tab w0 vc t.cls) (hE : Runes w0 ve t.exc) (hl : t.rows.length ≤ 2147483648) (hlc : t.cls.length ≤ 2147483648) (hle : t.exc.length ≤ 2147483648) (hm : Rises t.cls) (ha : Apart t.cls) (hx : ∀ i j, i < j → j < t.exc.length → t.exc.getD i 0 < t.exc.getD j 0) (h0 : 0 ≤ classOf t.cls r)
    (hb : Below w0.heap.size w0 w) (h : MadeIs w B (.slice a t.rows.length cap) vc ve out (lastZ (classOf t.cls) out) (mostM (classOf t.cls) out)) (hlo : out.length ≤ 2147483) (y : Int) (htr : triedM (classOf t.cls) out r = true) (hpn : pairM t (out.getD (lastZ (classOf t.cls) out).toNat 0) r = some y) (hcy : classOf t.cls y = 0) :
    Calls Tryz.prog 89 #[.pointer (some ⟨B, 0, none⟩), .int .i32 r] w fun e w' => e = .returned (.tuple #[]) ∧ MadeIs w' B (.slice a t.rows.length cap) vc ve (out.set (lastZ (classOf t.cls) out).toNat y) (lastZ (classOf t.cls) (out.set (lastZ (classOf t.cls) out).toNat y)) (mostM (classOf t.cls) (out.set (lastZ (classOf t.cls) out).toNat y)) ∧ Below B w w' := by
  have HK := Hid.mk' (class_any (.slice a t.rows.length cap) vc ve t.cls r w (hC.below hb) hlc hm ha)
  have HRe : Hid (∀ W, Below w.heap.size w W → _) := fun W hW => reaches_any B (.slice a t.rows.length cap) vc ve out (lastZ (classOf t.cls) out) (mostM (classOf t.cls) out) (classOf t.cls r) W (h.below hW) (by omega)
  rw [reachesB (classOf t.cls) out r h0] at HRe
  have HPr : Hid (∀ W x, Below w.heap.size w W → _) := fun W x hW => pair_any (.slice a t.rows.length cap) vc ve t x r W (hR.below (hb.trans (hW.mono hb.size))) (hC.below (hb.trans (hW.mono hb.size))) (hE.below (hb.trans (hW.mono hb.size))) hl hlc hle hm ha hx
  have HM : Hid (∀ W, Below w.heap.size w W → MadeIs W B (.slice a t.rows.length cap) vc ve out (lastZ (classOf t.cls) out) (mostM (classOf t.cls) out)) := fun W hW => h.below hW
  have h0l' := ((tried_iff (classOf t.cls) out r).1 htr).1
  have hL1 := lastZ_set (classOf t.cls) out y h0l' hcy
  have hL2 := most_set (classOf t.cls) out y h0l' hcy
  have hlz := lastIn_lt (classOf t.cls) out out.length
  have hBs : B < w.heap.size := by obtain ⟨v, h1, -⟩ := h; exact lt_of_block h1
  obtain ⟨ca, ccap, rfl, -⟩ := id hC
  obtain ⟨ea, ecap, rfl, -⟩ := id hE
  have HFIN : Hid (∀ W, Below w.heap.size w W → MadeIs W B (.slice a t.rows.length cap) (.slice ca t.cls.length ccap) (.slice ea t.exc.length ecap) out (lastZ (classOf t.cls) out) (mostM (classOf t.cls) out)) := HM
  clear hR hC hE hm ha hx hb h HM h0l'
  have hlast : -1 ≤ lastZ (classOf t.cls) out ∧ lastZ (classOf t.cls) out < out.length := ⟨hlz.2, hlz.1⟩
  clear hlz
  rw [hL1, hL2]
  clear hL1 hL2 hcy
  generalize mostM (classOf t.cls) out = most at *
  rw [htr] at HRe
  have h0l := ((tried_iff (classOf t.cls) out r).1 htr).1
  obtain ⟨k, hk⟩ : ∃ k : Nat, lastZ (classOf t.cls) out = k := ⟨(lastZ (classOf t.cls) out).toNat, by omega⟩
  rw [hk] at hpn HFIN hlast
  rw [Int.toNat_natCast] at hpn
  have HPx : Hid (∀ W, Below w.heap.size w W → _) := fun W hW => HPr.out W (out.getD k 0) hW
  rw [hpn] at HPx
  have hkl : k < out.length := by omega
  have hkz : (k : Int) < (out.length : Int) := by omega
  obtain ⟨v0, q1, q2⟩ := HFIN.out w (Below.refl _ _)
  obtain ⟨g, vcp0, rfl⟩ : ∃ g c, v0 = .slice (some ⟨g, 0, none⟩) out.length c := by
    rcases q2.2 with ⟨-, e⟩ | ⟨g, c, cur, rfl, -, -⟩
    · omega
    · exact ⟨g, c, rfl⟩
  have qr : w.cell? ⟨g, k, none⟩ = some (.int .i32 (out.getD k 0)) := by
    rw [q2.cellAt k (by omega), List.getElem?_map, List.getElem?_eq_getElem hkl]
    simp [List.getD, List.getElem?_eq_getElem hkl]
  generalize out.getD k 0 = x at *
  have HSS : Hid (∀ W, Below w.heap.size w W → W.cell? ⟨B, 0, none⟩ = some (.slice a t.rows.length cap) ∧ W.cell? ⟨B, 1, none⟩ = some (.slice ca t.cls.length ccap) ∧ W.cell? ⟨B, 2, none⟩ = some (.slice ea t.exc.length ecap) ∧ W.cell? ⟨B, 3, none⟩ = some (.slice (some ⟨g, 0, none⟩) out.length vcp0) ∧ W.cell? ⟨B, 4, none⟩ = some (.int .i64 (k : Int)) ∧ W.cell? ⟨g, k, none⟩ = some (.int .i32 x)) := fun W hW => by
    obtain ⟨p0, p1, p2, p3, p4, -⟩ := six_cell q1
    exact ⟨(hW.cell (lt_of_cell p0)).trans p0, (hW.cell (lt_of_cell p1)).trans p1, (hW.cell (lt_of_cell p2)).trans p2, (hW.cell (lt_of_cell p3)).trans p3, (hW.cell (lt_of_cell p4)).trans p4, (hW.cell (lt_of_cell qr)).trans qr⟩
  rw [hk, Int.toNat_natCast]
  clear htr HPr hpn h0l hk q1 q2 qr
  generalize classOf t.cls r = cr at *
  obtain ⟨p0, p1, p2, -, -, -⟩ := HSS.out w (Below.refl _ _)
  go_enter Tryz.func89, Tryz.ntmps89
  go_wp2_with fail
  refine HK.out.mono ?_
  rintro e w1 ⟨rfl, hb1⟩
  go_wp2_with fail
  refine (HRe.out w1 hb1).mono ?_
  rintro e w2 ⟨rfl, hb2⟩
  have hb12 := hb1.trans (hb2.mono hb1.size)
  have hzb : Below w.heap.size w w2.drew := hb12.drew
  have hz := HSS.out _ hzb
  go_wp2
  go_region_held3 (fun w' => w'.cell? ⟨B, 0, none⟩ = some (.slice a t.rows.length cap) ∧ w'.cell? ⟨B, 1, none⟩ = some (.slice ca t.cls.length ccap) ∧ w'.cell? ⟨B, 2, none⟩ = some (.slice ea t.exc.length ecap) ∧ w'.cell? ⟨B, 3, none⟩ = some (.slice (some ⟨g, 0, none⟩) out.length vcp0) ∧ w'.cell? ⟨B, 4, none⟩ = some (.int .i64 (k : Int)) ∧ w'.cell? ⟨g, k, none⟩ = some (.int .i32 x)) (first | exact hz | exact HSS.out _ (by assumption)) (first | (go_at_call 126; refine (HPx.out _ ?_).mono ?_; assumption; rintro e wA ⟨rfl, hbA⟩; have hzA : Below w.heap.size w wA := hzb.trans (hbA.mono hzb.size)))
  clear hz hzb hb1 hb2 hb12 hbA p0 p1 p2
  obtain ⟨v, h1, h2⟩ := HFIN.out wA hzA
  obtain ⟨-, -, -, z3, z4, z5⟩ := HSS.out wA hzA
  obtain rfl : v = .slice (some ⟨g, 0, none⟩) out.length vcp0 := by
    have e1 := (six_cell h1).2.2.2.1
    rw [e1] at z3
    exact Option.some.inj z3
  have fk := h2.frozenAt k
  have hgB : B + 1 ≤ g := (h2.lt g rfl).1
  have hs2 := (h2.stored k (.int .i32 y)).1
  rw [map_set_int] at hs2
  have hs1 : (wA.setCell ⟨g, k, none⟩ (.int .i32 y)).heap[B]? = some (.cells #[.slice a t.rows.length cap, .slice ca t.cls.length ccap, .slice ea t.exc.length ecap, .slice (some ⟨g, 0, none⟩) out.length vcp0, .int .i64 (k : Int), .int .i64 most] 151 (0, 0)) := by
    rw [Below.heap_setCell _ _ _ _ (by show B ≠ g; omega)]; exact h1
  have HF : Hid (MadeIs (wA.setCell ⟨g, k, none⟩ (.int .i32 y)) B (.slice a t.rows.length cap) (.slice ca t.cls.length ccap) (.slice ea t.exc.length ecap) (out.set k y) (k : Int) most) := ⟨_, hs1, by rw [List.length_set]; exact hs2⟩
  have HFB : Hid (Below B w (wA.setCell ⟨g, k, none⟩ (.int .i32 y))) := (hzA.mono (by omega)).setCell (p := ⟨g, k, none⟩) (by show B ≤ g; omega) _
  clear hs1 hs2 h1 h2
  go_wp2
  go_region
  go_wp2
  exact bodyPost_ret (results_none Tryz.results89 _ _ _) rfl ⟨rfl, HF.out.below (Below.refl _ _).drew, HFB.out.drew⟩
end Go.Proofs.YtoceaielclomcaaRRGreatDoor
namespace Go.Proofs.YtoceaielclomcaaRRGreatDoor
open Go.RowKit Go.Shelf

/-- WHAT THE WALKS OF COMP ASK OF A NORM, in a world -/
structure NormAt (w : World) (a : Option Addr) (cap : Nat) (vc ve : Value) (t : Nm) : Prop where
  R : Rows4 w (.slice a t.rows.length cap) t.rows
  C : Tab w vc t.cls
  E : Runes w ve t.exc
  lc : t.cls.length ≤ 2000
  cap : t.rows.length ≤ cap
  right : Right4 t
theorem NormAt.below {w w' : World} {a : Option Addr} {cap : Nat} {vc ve : Value} {t : Nm} (h : NormAt w a cap vc ve t) (hb : Below w.heap.size w w') : NormAt w' a cap vc ve t := ⟨h.R.below hb, h.C.below hb, h.E.below hb, h.lc, h.cap, h.right⟩
theorem add_any (B : Nat) (a : Option Addr) (cap : Nat) (vc ve : Value) (t : Nm) (out : List Int) (r : Int) (w0 w : World) (hN : NormAt w0 a cap vc ve t) (hb : Below w0.heap.size w0 w) (h : MadeIs w B (.slice a t.rows.length cap) vc ve out (lastZ (classOf t.cls) out) (mostM (classOf t.cls) out)) (hlo : out.length ≤ 2147483) :
    Calls Tryz.prog 89 #[.pointer (some ⟨B, 0, none⟩), .int .i32 r] w fun e w' => e = .returned (.tuple #[]) ∧ MadeIs w' B (.slice a t.rows.length cap) vc ve (stepM (classOf t.cls) (pairM t) out r) (lastZ (classOf t.cls) (stepM (classOf t.cls) (pairM t) out r)) (mostM (classOf t.cls) (stepM (classOf t.cls) (pairM t) out r)) ∧ Below B w w' := by
  obtain ⟨hR, hC, hE, hlc, hcap, k1, k2, krow, kcls, kclsC, kexc, kth⟩ := hN
  obtain ⟨-, -, hap, hri⟩ := right_parts kcls
  have hxr := exc_rise kexc
  have h0 := class_ge kclsC r
  cases htr : triedM (classOf t.cls) out r
  · rw [step_not _ _ _ _ htr]
    exact add_end B a cap vc ve t out r w0 w hR hC hE (by omega) (by omega) (by omega) hri hap hxr h0 hb h hlo (fun e => by rw [htr] at e; cases e)
  · cases hp : pairM t (out.getD (lastZ (classOf t.cls) out).toNat 0) r with
    | none =>
      rw [step_miss _ _ _ _ htr hp]
      exact add_end B a cap vc ve t out r w0 w hR hC hE (by omega) (by omega) (by omega) hri hap hxr h0 hb h hlo (fun _ => hp)
    | some y =>
      rw [step_hit _ _ _ _ _ htr hp]
      exact add_hit B a cap vc ve t out r w0 w hR hC hE (by omega) (by omega) (by omega) hri hap hxr h0 hb h hlo y htr hp (pair_class kclsC hp)
set_option maxRecDepth 100000 in
set_option maxHeartbeats 4000000 in
theorem each_any (B : Nat) (a : Option Addr) (cap : Nat) (vc ve : Value) (t : Nm) (v : Value) (l : List Int) (w0 w : World) (hN : NormAt w0 a cap vc ve t) (hv : Runes w0 v l) (hb : Below w0.heap.size w0 w) (hB : w0.heap.size ≤ B) (h : MadeIs w B (.slice a t.rows.length cap) vc ve [] (-1) 0) (hll : l.length ≤ 2147483) :
    Calls Tryz.prog 88 #[v, .func (.func 89) #[.pointer (some ⟨B, 0, none⟩)] #[]] w fun e w' => e = .returned (.tuple #[]) ∧ MadeIs w' B (.slice a t.rows.length cap) vc ve (putM (classOf t.cls) (pairM t) l) (lastZ (classOf t.cls) (putM (classOf t.cls) (pairM t) l)) (mostM (classOf t.cls) (putM (classOf t.cls) (pairM t) l)) ∧ Below w0.heap.size w0 w' := by
  have hF : ∀ args w, (callFunc 89 args).run Tryz.prog w = .ok (.enter 89 args) w := enters_of Tryz.func89 (by kernel_rfl) rfl
  have HADD : Hid (∀ W out r, Below w0.heap.size w0 W → MadeIs W B (.slice a t.rows.length cap) vc ve out (lastZ (classOf t.cls) out) (mostM (classOf t.cls) out) → out.length ≤ 2147483 → _) := fun W out r hW hM hlo => add_any B a cap vc ve t out r w0 W hN hW hM hlo
  have HNX : Hid (∀ k, k < l.length → putM (classOf t.cls) (pairM t) (l.take (k + 1)) = stepM (classOf t.cls) (pairM t) (putM (classOf t.cls) (pairM t) (l.take k)) (l.getD k 0)) := fun k hk => put_next _ _ l k hk
  have HLE : Hid (∀ k, (putM (classOf t.cls) (pairM t) (l.take k)).length ≤ 2147483) := fun k => by
    have h1 := put_len (classOf t.cls) (pairM t) (l.take k)
    rw [List.length_take] at h1
    omega
  have HALL : Hid (l.take l.length = l) := List.take_length
  have HV : Hid (∀ W, Below w0.heap.size w0 W → Runes W v l) := fun W hW => hv.below hW
  obtain ⟨va, vcp, rfl, -⟩ := id hv
  have H0 := Hid.mk' h
  clear hN hv h
  go_enter Tryz.func88, Tryz.ntmps88
  go_wp2
  go_loopw [8] (fun x wr => ∃ k : Nat, x = .int .i64 k ∧ k ≤ l.length ∧ Hid (MadeIs wr B (.slice a t.rows.length cap) vc ve (putM (classOf t.cls) (pairM t) (l.take k)) (lastZ (classOf t.cls) (putM (classOf t.cls) (pairM t) (l.take k))) (mostM (classOf t.cls) (putM (classOf t.cls) (pairM t) (l.take k)))) ∧ Hid (Below w0.heap.size w0 wr)) (fun x _ => l.length - (intOf x).toNat)
  case atStart => exact ⟨0, rfl, Nat.zero_le _, H0, hb⟩
  case round =>
    obtain ⟨k, rfl, hk, HM, HB⟩ := hrel
    by_cases hlt : k < l.length
    · obtain ⟨va', vcp', ee, hvj⟩ := HV.out wr HB.out
      obtain ⟨rfl, rfl⟩ : va = va' ∧ vcp = vcp' := by simpa using ee
      obtain ⟨b, off, rfl, ck⟩ := hvj k hlt
      have HA := Hid.mk' (HADD.out wr _ (l.getD k 0) HB.out HM.out (HLE.out k))
      rw [← HNX.out k hlt] at HA
      clear ee hvj HM
      generalize l.getD k 0 = r at *
      have hklz : (k : Int) < (l.length : Int) := by omega
      go_wp2_with fail
      refine HA.out.mono ?_
      rintro e w1 ⟨rfl, hM1, hb1⟩
      have HM1 := Hid.mk' hM1
      have HB1 : Hid (Below w0.heap.size w0 w1) := HB.out.trans (hb1.mono hB)
      clear hM1 hb1
      go_wp2
      go_roundw
      case rel => exact ⟨k + 1, by go_num, by omega, HM1, HB1⟩
      case measure => simp [intOf]; omega
    · obtain rfl : k = l.length := by omega
      rw [HALL.out] at HM
      go_wp2
      go_end0
      exact ⟨rfl, HM.out, HB.out⟩
set_option maxRecDepth 100000 in
set_option maxHeartbeats 4000000 in
theorem put_any (a : Option Addr) (cap : Nat) (vc ve : Value) (t : Nm) (v : Value) (l : List Int) (w : World) (hN : NormAt w a cap vc ve t) (hv : Runes w v l) (hll : l.length ≤ 2147483) :
    Calls Tryz.prog 58 #[.agg #[.slice a t.rows.length cap, vc, ve], v] w fun e w' => ∃ v', e = .returned v' ∧ w'.ownsRow w.heap.size 21 1 v' (putM (classOf t.cls) (pairM t) l).length ((putM (classOf t.cls) (pairM t) l).map (Value.int .i32)) ∧ Below w.heap.size w w' := by
  obtain ⟨W0, hW0, hsz, hb0, e0, e1, e2⟩ := norm_box w (.slice a t.rows.length cap) vc ve
  obtain ⟨W1, hW1⟩ : ∃ W1, W0.alloc (.cells #[.slice a t.rows.length cap, vc, ve, .slice none 0 0, .int .i64 (-1), .int .i64 0] 151) = W1 := ⟨_, rfl⟩
  have hm1 : W1.heap[w.heap.size + 1]? = some (.cells #[.slice a t.rows.length cap, vc, ve, .slice none 0 0, .int .i64 (-1), .int .i64 0] 151 (0, 0)) := by rw [← hW1, ← hsz]; exact Array.getElem?_push_size
  have hb1 : Below w.heap.size w W1 := by rw [← hW1]; exact hb0.alloc (by omega) _
  have HE := Hid.mk' (each_any (w.heap.size + 1) a cap vc ve t v l w W1 hN hv hb1 (Nat.le_succ _) ⟨_, hm1, World.ownsRow_nil _ _ _ _⟩ hll)
  obtain ⟨va, vcp, rfl, -⟩ := id hv
  obtain ⟨ca, ccap, rfl, -⟩ := id hN.C
  obtain ⟨ea, ecap, rfl, -⟩ := id hN.E
  generalize putM (classOf t.cls) (pairM t) l = res at *
  clear hN hv hm1 hb0 e0 e1 e2 hb1 hsz
  subst hW1
  subst hW0
  go_enter Tryz.func58, Tryz.ntmps58
  go_wp2_with fail
  refine HE.out.mono ?_
  rintro e w2 ⟨rfl, ⟨v2, hh1, hh2⟩, hb2⟩
  obtain ⟨xa, xc, rfl⟩ := own_slice hh2
  obtain ⟨-, -, -, c3, -, -⟩ := six_cell hh1
  have HO := Hid.mk' (own_weaken (B := w.heap.size) hh2 (by omega))
  clear hh1 hh2
  go_wp2
  go_ret
  exact ⟨_, rfl, HO.out, hb2⟩
end Go.Proofs.YtoceaielclomcaaRRGreatDoor

/-
  What is proved here: what slices.insertionSortCmpFunc does to a row of runes; runes in runs of one length, each in order.
-/
import Derived.Test.YtoceaielclomcaaRRGreatDoorS4
namespace Go.Proofs
open Go.Shelf
def Tryz.laysIns_ren : Go.Shelf.Ren := ⟨fun | 20 => 163 | n => n, fun | 22 => 37 | 24 => 21 | 25 => 192 | 3 => 3 | 4 => 4 | 0 => 0 | n => n, fun | n => n⟩
theorem Tryz.laysIns : Go.Proofs.SlLaysF.n20 Tryz.prog Tryz.laysIns_ren := {
  mixed := by kernel_rfl
  f20 := ⟨Tryz.f163.name, by decide, Tryz.func163.trans (congrArg some (by kernel_rfl))⟩
  t0 := Tryz.underlying0
  a0 := Tryz.isAgg0
  z0 := Tryz.sizeOf0
  v0 := Tryz.zeroValue0
  t3 := Tryz.underlying3
  a3 := Tryz.isAgg3
  z3 := Tryz.sizeOf3
  v3 := Tryz.zeroValue3
  t4 := Tryz.underlying4
  a4 := Tryz.isAgg4
  z4 := Tryz.sizeOf4
  v4 := Tryz.zeroValue4
  t22 := Tryz.underlying37
  a22 := Tryz.isAgg37
  z22 := Tryz.sizeOf37
  v22 := Tryz.zeroValue37
  a24 := Tryz.isAgg21
  z24 := Tryz.sizeOf21
  t25 := Tryz.underlying192
  a25 := Tryz.isAgg192
  z25 := Tryz.sizeOf192
  v25 := Tryz.zeroValue192 }
end Go.Proofs
namespace Go.Proofs.YtoceaielclomcaaRRGreatDoor
open Go.RowKit Go.Sort

section
variable {c : Int → Int} {cf : Int → Int → Int}
theorem swo_cf (hcf : ∀ x y, decide (cf x y < 0) = decide (c x < c y)) : SWO (ltOf cf) := by
  refine ⟨fun x => ?_, fun x y z h1 h2 => ?_, fun x y z h1 h2 => ?_⟩
  · unfold ltOf; rw [hcf]; simp
  · unfold ltOf at *; rw [hcf] at *; simp at *; omega
  · unfold ltOf at *; rw [hcf] at *; simp at *; omega
theorem swap_next (L : List Int) (j : Nat) (hj : j + 1 < L.length) : ∃ P Q x y, L = P ++ x :: y :: Q ∧ P.length = j ∧ L.getD j 0 = x ∧ L.getD (j + 1) 0 = y ∧ swapL L (j + 1) j = P ++ y :: x :: Q := by
  obtain ⟨P, X, Y, Q, e, hP, hX, hY⟩ := cut4 L (s := j) (m := j + 1) (e := j + 2) (by omega) (by omega) (by omega)
  obtain ⟨x, rfl⟩ : ∃ x, X = [x] := List.length_eq_one_iff.1 (by omega)
  obtain ⟨y, rfl⟩ : ∃ y, Y = [y] := List.length_eq_one_iff.1 (by omega)
  have e' : L = P ++ x :: ([] ++ y :: Q) := by rw [e]; simp
  obtain ⟨g1, g2⟩ := getD_two P [] Q x y
  have g3 := swapL_two P [] Q x y
  rw [← e'] at g1 g2 g3
  rw [hP] at g1 g2 g3
  refine ⟨P, Q, x, y, by simpa using e', hP, g1, by simpa using g2, ?_⟩
  have : swapL L (j + 1) j = swapL L j (j + 1) := by
    unfold swapL
    rw [List.set_comm _ _ (by omega : j + 1 ≠ j)]
  rw [this]
  simpa using g3
theorem insInner_bub (hcf : ∀ x y, decide (cf x y < 0) = decide (c x < c y)) (a b : Nat) : ∀ (j : Nat) (L : List Int), j < b → b ≤ L.length → ∃ L', insInner (ltOf cf) a j L.toArray = L'.toArray ∧ Bub c a b L L' := by
  intro j
  induction j with
  | zero => intro L _ _; exact ⟨L, rfl, .refl _⟩
  | succ j ih =>
    intro L hj hb
    rw [insInner]
    split
    · rename_i h
      rw [Bool.and_eq_true, decide_eq_true_eq, arr_get, arr_get] at h
      obtain ⟨P, Q, x, y, e, hP, g1, g2, g3⟩ := swap_next L j (by omega)
      have hlt : c y < c x := by
        have := h.2
        unfold ltOf at this
        rw [hcf, decide_eq_true_eq, g1, g2] at this
        exact this
      have hB : Bub c a b L (swapL L (j + 1) j) := by
        rw [g3]
        conv => lhs; rw [e]
        exact .step P Q x y _ (by omega) (by omega) hlt (.refl _)
      rw [swp_toArray]
      obtain ⟨L', h1, h2⟩ := ih (swapL L (j + 1) j) (by omega) (by rw [swapL_length]; omega)
      exact ⟨L', h1, hB.trans h2⟩
    · exact ⟨L, rfl, .refl _⟩
theorem insOuter_bub (hcf : ∀ x y, decide (cf x y < 0) = decide (c x < c y)) (a b : Nat) : ∀ (n i : Nat) (L : List Int), b - i ≤ n → b ≤ L.length → ∃ L', insOuter (ltOf cf) a b i L.toArray = L'.toArray ∧ Bub c a b L L' := by
  intro n
  induction n with
  | zero =>
    intro i L hn hb
    rw [insOuter, if_neg (by omega)]
    exact ⟨L, rfl, .refl _⟩
  | succ n ih =>
    intro i L hn hb
    by_cases h : i < b
    · rw [insOuter, if_pos h]
      obtain ⟨L1, h1, h2⟩ := insInner_bub hcf a b i L h hb
      rw [h1]
      obtain ⟨L2, h3, h4⟩ := ih (i + 1) L1 (by omega) (by rw [h2.length]; exact hb)
      exact ⟨L2, h3, h2.trans h4⟩
    · rw [insOuter, if_neg h]
      exact ⟨L, rfl, .refl _⟩
theorem insertion_list (hcf : ∀ x y, decide (cf x y < 0) = decide (c x < c y)) (a b : Nat) (L : List Int) (hab : a ≤ b) (hb : b ≤ L.length) : ∃ L', insertionSort (ltOf cf) L.toArray a b = L'.toArray ∧ Bub c a b L L' ∧ Srt c a b L' := by
  obtain ⟨L', h1, h2⟩ := insOuter_bub hcf a b (b - (a + 1)) (a + 1) L (by omega) hb
  refine ⟨L', h1, h2, fun i j hi hij hj => ?_⟩
  have := (insertionSort_holds (lt := ltOf cf) (swo_cf hcf) L.toArray a b hab (by simpa using hb)).2 i j hi hij hj
  unfold insertionSort at this
  rw [h1, arr_get, arr_get] at this
  unfold ltOf at this
  rw [hcf, decide_eq_false_iff_not] at this
  omega
theorem insertion_any (hcf : ∀ x y, decide (cf x y < 0) = decide (c x < c y)) (g : Nat) (cb : Array Value) (eg : ∀ args w, (callFunc g args).run Tryz.prog w = .ok (.enter g args) w) (w0 : World) (blk off cap : Nat) (L0 : List Int) (R : RL w0 blk off L0) (hcm : CmpL g cb cf blk off L0.length w0) (hs : L0.length ≤ 1073741824) (a b : Nat) (L : List Int) (w : World) (hab : a ≤ b) (hb : b ≤ L.length) (hl : L.length = L0.length) (S : SL w0 blk off L w) :
    Calls Tryz.prog 163 #[.slice (some ⟨blk, off, none⟩) L0.length cap, .int .i64 a, .int .i64 b, .func (.func g) #[] cb] w fun e w' => e = .returned (.tuple #[]) ∧ ∃ L', Bub c a b L L' ∧ Srt c a b L' ∧ SL w0 blk off L' w' := by
  have h := Any.insertionSortCmpFunc_s Tryz.laysIns (Value.int .i32) cf g cb blk off cap a b L0.toArray L.toArray w0 w eg (by rw [List.size_toArray]; exact hcm) R (by simpa using hl.symm) S hab (by simpa using hb) (by simp; omega)
  rw [List.size_toArray, hl] at h
  refine Calls.mono h ?_
  rintro e w' ⟨rfl, hS⟩
  obtain ⟨L', h1, h2, h3⟩ := insertion_list hcf a b L hab hb
  rw [h1] at hS
  exact ⟨rfl, L', h2, h3, hS⟩
variable (c)
/-- from the start on, as far as a, runs of s runes, each in order -/
inductive RT (s : Nat) (L : List Int) : Nat → Prop
  | zero : RT s L 0
  | step (a : Nat) (h : RT s L a) (hs : Srt c a (a + s) L) : RT s L (a + s)
/-- from a on, as far as n, runs of s runes, each in order -/
def Runs (n s : Nat) (L : List Int) : Nat → Nat → Prop
  | 0, a => n ≤ a
  | f + 1, a => n ≤ a ∨ (Srt c a (min (a + s) n) L ∧ Runs n s L f (a + s))
variable {c}
theorem RT.out {s a a' b' : Nat} {L L' : List Int} (h : RT c s L a) (hb : Bub c a' b' L L') (ha : a ≤ a') : RT c s L' a := by
  induction h with
  | zero => exact .zero
  | step a _ hs ih => exact .step a (ih (by omega)) (hs.out hb (.inl ha))
theorem Runs.out {n s a' b' : Nat} {L L' : List Int} (hb : Bub c a' b' L L') : ∀ (f a : Nat), Runs c n s L f a → b' ≤ a → Runs c n s L' f a := by
  intro f
  induction f with
  | zero => intro a h _; exact h
  | succ f ih =>
    intro a h ha
    rcases h with h | ⟨h1, h2⟩
    · exact .inl h
    · exact .inr ⟨h1.out hb (.inr ha), ih _ h2 (by omega)⟩
theorem RT.runs {n s a : Nat} {L : List Int} (h : RT c s L a) : ∀ f, Runs c n s L f a → ∃ f', Runs c n s L f' 0 := by
  induction h with
  | zero => intro f hf; exact ⟨f, hf⟩
  | step a _ hs ih =>
    intro f hf
    refine ih (f + 1) ?_
    rcases Nat.lt_or_ge a n with g | g
    · exact .inr ⟨fun i j h1 h2 h3 => hs i j h1 h2 (by omega), hf⟩
    · exact .inl g
theorem RT.whole {n s a : Nat} {L : List Int} (h : RT c s L a) (ha : a ≤ n) (hs : n ≤ s) (ht : Srt c a n L) : Srt c 0 n L := by
  cases h with
  | zero => exact ht
  | step a h hs' =>
    obtain rfl : a = 0 := by omega
    obtain rfl : n = 0 + s := by omega
    exact hs'
end
end Go.Proofs.YtoceaielclomcaaRRGreatDoor

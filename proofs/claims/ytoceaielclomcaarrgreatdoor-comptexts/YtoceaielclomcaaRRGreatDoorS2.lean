/-
  What is proved here: plain mathematics of a merge (no program): one element put into a row in order.
-/
import Derived.Test.YtoceaielclomcaaRRGreatDoorS1
namespace Go.Proofs.YtoceaielclomcaaRRGreatDoor
open Go.RowKit Go.Sort

section
variable {c : Int → Int}
theorem ins_left {a b i : Nat} {L : List Int} (h2 : Srt c (a + 1) b L) (hi1 : a + 1 ≤ i) (hib : i ≤ b) (hbl : b ≤ L.length) (hlt : ∀ k, a + 1 ≤ k → k < i → c (L.getD k 0) < c (L.getD a 0)) (hge : i = b ∨ c (L.getD a 0) ≤ c (L.getD i 0)) :
    ∃ P x Y Z, L = P ++ [x] ++ Y ++ Z ∧ P.length = a ∧ Y.length = i - (a + 1) ∧ Bub c a b L (P ++ Y ++ [x] ++ Z) ∧ Srt c a b (P ++ Y ++ [x] ++ Z) := by
  obtain ⟨P, X, Y, Z, e, hP, hX, hY, hB, -, h3, h4, h5, hC⟩ := merge_step (c := c) (a := a) (m := a + 1) (b := b) (mid := i - 1) (s := a) (e := i) (Srt.one a L) h2 (Nat.le_refl _) (Nat.le_succ _) hi1 hib hbl (by omega) (.inl rfl) (by
    rcases (by omega : i = a + 1 ∨ a + 1 < i) with h | h
    · exact .inr (.inl h)
    · exact .inr (.inr (hlt (i - 1) (by omega) (by omega))))
  obtain ⟨x, rfl⟩ : ∃ x, X = [x] := List.length_eq_one_iff.1 (by omega)
  refine ⟨P, x, Y, Z, e, hP, hY, hB, Srt.both h3 (Srt.both h4 h5 ?_) hC⟩
  intro p q hp hp' hq hq'
  obtain rfl : p = i - 1 := by omega
  have g := getD_rot P [x] Y Z
  rw [← e] at g
  have g1 : (P ++ Y ++ [x] ++ Z).getD (i - 1) 0 = L.getD a 0 := by rw [g, if_neg (by simp; omega), if_neg (by simp; omega), if_pos (by simp; omega)]; congr 1; omega
  have g2 : (P ++ Y ++ [x] ++ Z).getD q 0 = L.getD q 0 := by rw [g, if_neg (by simp; omega), if_neg (by simp; omega), if_neg (by simp; omega)]
  rw [g1, g2]
  rcases hge with h | h
  · omega
  · exact Int.le_trans h (h2.le (by omega) hq hq')
theorem ins_right {a m i : Nat} {L : List Int} (h1 : Srt c a m L) (hia : a ≤ i) (him : i ≤ m) (hml : m + 1 ≤ L.length) (hgt : i = m ∨ c (L.getD m 0) < c (L.getD i 0)) (hle : i = a ∨ c (L.getD (i - 1) 0) ≤ c (L.getD m 0)) :
    ∃ P X y Z, L = P ++ X ++ [y] ++ Z ∧ P.length = i ∧ X.length = m - i ∧ Bub c a (m + 1) L (P ++ [y] ++ X ++ Z) ∧ Srt c a (m + 1) (P ++ [y] ++ X ++ Z) := by
  obtain ⟨P, X, Y, Z, e, hP, hX, hY, hB, h2, h3, h4, h5, hC⟩ := merge_step (c := c) (a := a) (m := m) (b := m + 1) (mid := i + 1) (s := i) (e := m + 1) h1 (Srt.one m L) hia him (Nat.le_succ _) (Nat.le_refl _) hml (by omega) (.inr (.inl rfl)) (by
    rcases hgt with h | h
    · exact .inl h
    · exact .inr (.inr (by simpa using h)))
  obtain ⟨y, rfl⟩ : ∃ y, Y = [y] := List.length_eq_one_iff.1 (by omega)
  refine ⟨P, X, y, Z, e, hP, hX, hB, Srt.both (Srt.both h2 h3 ?_) h4 hC⟩
  intro p q hp hp' hq hq'
  obtain rfl : q = i := by omega
  have g := getD_rot P X [y] Z
  rw [← e] at g
  have g1 : (P ++ [y] ++ X ++ Z).getD q 0 = L.getD m 0 := by rw [g, if_neg (by omega), if_pos (by simp; omega)]; congr 1; omega
  have g2 : (P ++ [y] ++ X ++ Z).getD p 0 = L.getD p 0 := by rw [g, if_pos (by omega)]
  rw [g1, g2]
  rcases hle with h | h
  · omega
  · exact Int.le_trans (h1.le hp (by omega) (by omega)) h
end
theorem SL.grown {w0 W : World} {blk off : Nat} {L : List Int} (h : SL w0 blk off L W) (n : Nat) (os : Array Obj) : SL w0 blk off L (grow (W.drewN n) os) := SW.grown h n os
theorem SL.cl {w0 W : World} {blk off : Nat} {L L0 : List Int} (h : SL w0 blk off L W) (R : RL w0 blk off L0) (hs : L.length = L0.length) (i : Nat) (hi : i < L.length) (n : Nat) (os : Array Obj) : (grow (W.drewN n) os).cell? ⟨blk, off + i, none⟩ = some (.int .i32 (L.getD i 0)) := (h.grown n os).cell R hs i hi
/-- what is asked of the function that compares -/
def CmpL (g : Nat) (cb : Array Value) (cf : Int → Int → Int) (blk off size : Nat) (w0 : World) : Prop := CmpLays1 Tryz.prog g cb (Value.int .i32) cf blk off size w0
theorem SL.cmp {w0 W : World} {blk off : Nat} {L : List Int} {g : Nat} {cb : Array Value} {cf : Int → Int → Int} {size : Nat} (h : SL w0 blk off L W) (hC : CmpL g cb cf blk off size w0) (hs : L.length = size) (x y : Int) (n : Nat) (os : Array Obj) :
    Calls Tryz.prog g (#[.int .i32 x, .int .i32 y] ++ cb) (grow (W.drewN n) os) fun e w' => e = .returned (.int .i64 (cf x y)) ∧ ∃ q os', w' = grow ((grow (W.drewN n) os).drewN q) os' := SW.cmp h hC (by simpa using hs) x y n os
end Go.Proofs.YtoceaielclomcaaRRGreatDoor

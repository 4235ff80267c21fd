/-
  What is proved here: plain mathematics of a table's text (no program): numbers of digits, lines, the lines of a text.
-/
import Derived.Test.YtlnehhfljjeifaaGreatDoorR0
import Derived.Lib.IndexMore
import Derived.Lib.IndexBytes
namespace Go.Proofs.YtlnehhfljjeifaaGreatDoor

def hexD : List UInt8 := [48, 49, 50, 51, 52, 53, 54, 55, 56, 57, 65, 66, 67, 68, 69, 70]
def decD : List UInt8 := [48, 49, 50, 51, 52, 53, 54, 55, 56, 57]
/-- digits behind a number -/
def numLoop (ds : List UInt8) : List UInt8 → Nat → Option Nat
  | [], n => some n
  | c :: t, n => if Lib.indexByte ds c < 0 then none else numLoop ds t (n * ds.length + (Lib.indexByte ds c).toNat)
/-- what a text of digits counts -/
def numb (ds : List UInt8) (least most : Nat) (l : List UInt8) : Option Nat :=
  if l.length < least ∨ most < l.length ∨ (least < l.length ∧ l.headD 0 = ds.headD 0) then none else numLoop ds l 0
theorem indexByte_lt (ds : List UInt8) (c : UInt8) : Lib.indexByte ds c < ds.length ∨ ds = [] := by
  induction ds with
  | nil => exact .inr rfl
  | cons d t ih =>
    left
    unfold Lib.indexByte
    simp only [List.length_cons]
    split
    · omega
    · split
      · omega
      · rcases ih with h | rfl
        · omega
        · simp [Lib.indexByte] at *
theorem numLoop_lt (ds : List UInt8) (b : Nat) (hb : ds.length = b) (h0 : 0 < b) : ∀ (l : List UInt8) (n k : Nat) (m : Nat), n < b ^ k → numLoop ds l n = some m → m < b ^ (k + l.length) := by
  intro l
  induction l with
  | nil => intro n k m hn h; simp [numLoop] at h; subst h; simpa using hn
  | cons c t ih =>
    intro n k m hn h
    unfold numLoop at h
    split at h
    · cases h
    · have h1 := indexByte_lt ds c
      have h2 : (Lib.indexByte ds c).toNat < b := by
        rcases h1 with h1 | h1
        · omega
        · subst h1; simp at hb; omega
      have h3 : n * ds.length + (Lib.indexByte ds c).toNat < b ^ (k + 1) := by
        rw [hb, Nat.pow_succ]
        have : (n + 1) * b ≤ b ^ k * b := Nat.mul_le_mul_right _ hn
        rw [Nat.add_mul] at this
        omega
      have := ih _ (k + 1) m h3 h
      simp only [List.length_cons]
      rw [show k + (t.length + 1) = k + 1 + t.length by omega]
      exact this
theorem digit_step (d n i k : Nat) (hi : i < d) (hn : n < d ^ k) : n * d + i < d ^ (k + 1) := by
  rw [Nat.pow_succ]
  have : (n + 1) * d ≤ d ^ k * d := Nat.mul_le_mul_right _ hn
  rw [Nat.add_mul] at this
  omega
theorem digit_small (d n k : Nat) (hd : d ≤ 16) (hk : k ≤ 6) (hn : n < d ^ k) : n < 16777216 := by
  have h1 : d ^ k ≤ 16 ^ k := Nat.pow_le_pow_left hd k
  have h2 : 16 ^ k ≤ 16 ^ 6 := Nat.pow_le_pow_right (by omega) hk
  have h3 : 16 ^ 6 = 16777216 := by decide
  omega
theorem numb_lt (ds : List UInt8) (least most b : Nat) (hb : ds.length = b) (h0 : 0 < b) (l : List UInt8) (m : Nat) (h : numb ds least most l = some m) : m < b ^ most := by
  unfold numb at h
  split at h
  · cases h
  · rename_i hn
    have h1 := numLoop_lt ds b hb h0 l 0 0 m (by simp) h
    exact Nat.lt_of_lt_of_le h1 (Nat.pow_le_pow_right h0 (by omega))
/-- a line with one rune -/
def lineOne (l : List UInt8) : Rg × Bool :=
  (⟨((numb hexD 4 6 (Lib.cut l [32]).1).getD 0 : Nat), ((numb hexD 4 6 (Lib.cut l [32]).1).getD 0 : Nat), ((numb decD 1 7 (Lib.cut l [32]).2.1).getD 0 : Nat)⟩,
    (numb hexD 4 6 (Lib.cut l [32]).1).isSome && (numb decD 1 7 (Lib.cut l [32]).2.1).isSome)
/-- a line with two -/
def lineTwo (l : List UInt8) : Rg × Bool :=
  let c := Lib.cut (Lib.cut l [32]).1 [46, 46]
  (⟨((numb hexD 4 6 c.1).getD 0 : Nat), ((numb hexD 4 6 c.2.1).getD 0 : Nat), ((numb decD 1 7 (Lib.cut l [32]).2.1).getD 0 : Nat)⟩,
    (numb hexD 4 6 c.1).isSome && (numb hexD 4 6 c.2.1).isSome && (numb decD 1 7 (Lib.cut l [32]).2.1).isSome && decide ((numb hexD 4 6 c.2.1).getD 0 ≠ (numb hexD 4 6 c.1).getD 0))
def readLine (l : List UInt8) : Option Rg := if (lineOne l).2 = true then some (lineOne l).1 else if (lineTwo l).2 = true then some (lineTwo l).1 else none
/-- the lines of a text; the place and the number of what is wrong -/
def parseL : Nat → List UInt8 → Nat → List Rg → List Rg × Nat × Nat
  | 0, _, _, acc => (acc, 0, 0)
  | f + 1, s, k, acc =>
    if s = [] then (acc, 0, 0) else
    if (Lib.cut s [10]).2.2 = false then ([], k, 2) else
    match readLine (Lib.cut s [10]).1 with
    | none => ([], k, 5)
    | some r => parseL f (Lib.cut s [10]).2.1 (k + 1) (acc ++ [r])
/-- what Parse answers -/
def parseM (s : List UInt8) : List Rg × Nat × Nat :=
  let x := parseL (s.length + 1) s 0 []
  if x.2.2 = 0 then (if (chk x.1).2 = 0 then (x.1, 0, 0) else ([], chk x.1)) else ([], x.2)
theorem cut_shorter (s : List UInt8) (c : UInt8) (h : (Lib.cut s [c]).2.2 = true) : (Lib.cut s [c]).2.1.length < s.length := by
  unfold Lib.cut at h ⊢
  split at h
  · rename_i h0
    rw [if_pos h0]
    simp only [List.length_drop, List.length_cons, List.length_nil]
    cases s with
    | nil => simp [Lib.index] at h0
    | cons a t => simp only [List.length_cons]; omega
  · cases h
theorem cut_le (s sep : List UInt8) : (Lib.cut s sep).1.length ≤ s.length ∧ (Lib.cut s sep).2.1.length ≤ s.length := by
  unfold Lib.cut
  split
  · simp; omega
  · simp
theorem parseL_len : ∀ (f : Nat) (s : List UInt8) (k : Nat) (acc : List Rg), (parseL f s k acc).1.length ≤ acc.length + s.length := by
  intro f
  induction f with
  | zero => intro s k acc; simp [parseL]
  | succ f ih =>
    intro s k acc
    unfold parseL
    split
    · simp
    · split
      · simp
      · rename_i h2
        split
        · simp
        · rename_i r _
          have h3 := ih (Lib.cut s [10]).2.1 (k + 1) (acc ++ [r])
          have h4 := cut_shorter s 10 (by simpa using h2)
          refine Nat.le_trans h3 ?_
          simp only [List.length_append, List.length_cons, List.length_nil]; omega
end Go.Proofs.YtlnehhfljjeifaaGreatDoor

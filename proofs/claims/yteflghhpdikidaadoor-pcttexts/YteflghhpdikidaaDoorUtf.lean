/-
  What is proved here: plain facts on numbers, bytes and lists that the walks of package utf lean on. No program is in it.
-/
import Derived.WalkKit
namespace Go.Proofs.YteflghhpdikidaaDoor.Utf

/-- how many bytes a rune's form has -/
def width (r : Int) : Int := if r < 0 ∨ 1114111 < r then 0 else if r < 128 then 1 else if r < 2048 then 2 else if 55296 ≤ r ∧ r ≤ 57343 then 0 else if r < 65536 then 3 else 4
/-- what kind of form a first byte begins -/
def formWidth (b : Int) : Int := if 248 ≤ b then 0 else if 240 ≤ b then 4 else if 224 ≤ b then 3 else if 192 ≤ b then 2 else if b < 128 then 1 else 0
/-- what a first byte carries -/
def leadBits (b n : Int) : Int := if n = 2 then (b - 192) % 256 else if n = 3 then (b - 224) % 256 else if n = 4 then (b - 240) % 256 else b
/-- 64 to a small power -/
def pw (m : Int) : Int := if m = 0 then 1 else if m = 1 then 64 else if m = 2 then 4096 else 262144
/-- does some right rune of n bytes begin so? -/
def ltr (r n m : Int) : Bool := width (r * pw m) == n || width (r * pw m + (pw m - 1)) == n
/-- a right rune's form -/
def form (r : Int) : List Int := if r < 128 then [r] else if r < 2048 then [192 + r / 64, 128 + r % 64] else if r < 65536 then [224 + r / 4096, 128 + r / 64 % 64, 128 + r % 64] else [240 + r / 262144, 128 + r / 4096 % 64, 128 + r / 64 % 64, 128 + r % 64]
theorem width_le (r : Int) : 0 ≤ width r ∧ width r ≤ 4 := by unfold width; (repeat' split) <;> omega
theorem formWidth_le (r : Int) : 0 ≤ formWidth r ∧ formWidth r ≤ 4 := by unfold formWidth; (repeat' split) <;> omega

/-- is a byte one that stands behind the first of a form? -/
def cont (c : UInt8) : Bool := decide (128 ≤ c.toNat) && decide (c.toNat < 192)
/-- the bits of some such bytes, behind others -/
def acc (r : Int) (l : List UInt8) : Int := l.foldl (fun r c => r * 64 + ((c.toNat % 64 : Nat) : Int)) r
theorem acc_snoc (r : Int) (l : List UInt8) (c : UInt8) : acc r (l ++ [c]) = acc r l * 64 + ((c.toNat % 64 : Nat) : Int) := by simp [acc]
/-- the rune that a text begins with, its width, and 0; or 0, 0, and 1 (a byte that can't be) or 2 (it ends too early): as the program reckons -/
def first : List UInt8 → Int × Int × Nat
  | [] => (0, 0, 1)
  | b :: t =>
    if formWidth b.toNat = 0 then (0, 0, 1)
    else if (t.take ((formWidth b.toNat).toNat - 1)).all cont = false then (0, 0, 1)
    else if ltr (acc (leadBits b.toNat (formWidth b.toNat)) (t.take ((formWidth b.toNat).toNat - 1))) (formWidth b.toNat) (formWidth b.toNat - 1 - (t.take ((formWidth b.toNat).toNat - 1)).length) = false then (0, 0, 1)
    else if ((t.take ((formWidth b.toNat).toNat - 1)).length : Int) + 1 < formWidth b.toNat then (0, 0, 2)
    else (acc (leadBits b.toNat (formWidth b.toNat)) (t.take ((formWidth b.toNat).toNat - 1)), formWidth b.toNat, 0)

theorem cont_bits : ∀ n : Nat, n < 256 → ((((n &&& 192 : Nat) : Int) != 128) = !(decide (128 ≤ n) && decide (n < 192))) := by decide +kernel
theorem cont_test (c : UInt8) : (bits BinOp.and IntKind.u8 (c.toNat : Int) 192 != 128) = !cont c := by
  have h := c.toNat_lt
  rw [show (192 : Int) = ((192 : Nat) : Int) from rfl, u8_and_nat c.toNat 192 h (by decide)]
  exact cont_bits _ h
theorem acc_lt (l : List UInt8) : ∀ r : Int, 0 ≤ r → 0 ≤ acc r l ∧ acc r l < (r + 1) * 64 ^ l.length := by
  induction l with
  | nil => intro r h; simp [acc]; omega
  | cons c l ih =>
    intro r h
    have hc : ((c.toNat % 64 : Nat) : Int) < 64 := by omega
    have := ih (r * 64 + ((c.toNat % 64 : Nat) : Int)) (by omega)
    refine ⟨this.1, Int.lt_of_lt_of_le this.2 ?_⟩
    rw [List.length_cons, Int.pow_succ, Int.mul_comm (64 ^ l.length) 64, ← Int.mul_assoc]
    exact Int.mul_le_mul_of_nonneg_right (by omega) (Int.pow_nonneg (by omega))
theorem leadBits_lt (b : UInt8) : 0 ≤ leadBits b.toNat (formWidth b.toNat) ∧ (formWidth b.toNat = 1 → leadBits b.toNat (formWidth b.toNat) < 128) ∧ (formWidth b.toNat = 2 → leadBits b.toNat (formWidth b.toNat) < 32) ∧ (formWidth b.toNat = 3 → leadBits b.toNat (formWidth b.toNat) < 16) ∧ (formWidth b.toNat = 4 → leadBits b.toNat (formWidth b.toNat) < 8) := by
  have h := b.toNat_lt
  unfold leadBits formWidth
  refine ⟨?_, ?_, ?_, ?_, ?_⟩ <;> (repeat' split) <;> omega
theorem acc_pw (b : UInt8) (u : List UInt8) (h0 : formWidth b.toNat ≠ 0) (hu : (u.length : Int) + 1 ≤ formWidth b.toNat) :
    0 ≤ acc (leadBits b.toNat (formWidth b.toNat)) u ∧ acc (leadBits b.toNat (formWidth b.toNat)) u * pw (formWidth b.toNat - 1 - u.length) < 2097152 := by
  obtain ⟨g0, g1, g2, g3, g4⟩ := leadBits_lt b
  have hn := formWidth_le b.toNat
  generalize leadBits b.toNat (formWidth b.toNat) = r at *
  generalize formWidth b.toNat = n at *
  obtain ⟨a0, a1⟩ := acc_lt u r g0
  refine ⟨a0, ?_⟩
  generalize acc r u = x at *
  generalize hl : u.length = j at *
  have hj : j = 0 ∨ j = 1 ∨ j = 2 ∨ j = 3 := by omega
  have hm : n = 1 ∨ n = 2 ∨ n = 3 ∨ n = 4 := by omega
  rcases hm with rfl | rfl | rfl | rfl <;> rcases hj with rfl | rfl | rfl | rfl <;> simp [pw] at * <;> omega
end Go.Proofs.YteflghhpdikidaaDoor.Utf

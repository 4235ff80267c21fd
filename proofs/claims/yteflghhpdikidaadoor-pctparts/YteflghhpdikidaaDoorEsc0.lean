/-
  What is proved here: plain facts on the escaped form of a text. No program is in it.
-/
import Derived.Test.YteflghhpdikidaaDoorPct0
namespace Go.Proofs.YteflghhpdikidaaDoor.Pct

/-- is a byte plain? -/
def plain (n : Nat) : Bool := (decide (97 ≤ n) && decide (n ≤ 122)) || (decide (65 ≤ n) && decide (n ≤ 90)) || (decide (48 ≤ n) && decide (n ≤ 57)) || n == 45 || n == 46 || n == 95 || n == 126
/-- the plain bytes, one by one -/
def plains : List UInt8 := [97, 98, 99, 100, 101, 102, 103, 104, 105, 106, 107, 108, 109, 110, 111, 112, 113, 114, 115, 116, 117, 118, 119, 120, 121, 122, 65, 66, 67, 68, 69, 70, 71, 72, 73, 74, 75, 76, 77, 78, 79, 80, 81, 82, 83, 84, 85, 86, 87, 88, 89, 90, 48, 49, 50, 51, 52, 53, 54, 55, 56, 57, 45, 46, 95, 126]
theorem plains_any : ∀ n : Nat, n < 256 → (plains.any fun c => c.toNat == n) = plain n := by decide +kernel
/-- does a byte stay as it is? -/
def stay (keep : List UInt8) (n : Nat) : Bool := n != 37 && (plain n || keep.any fun c => c.toNat == n)
/-- a capital hexadecimal digit -/
def hexD (n : Nat) : UInt8 := UInt8.ofNat (if n < 10 then 48 + n else 55 + n)
/-- a byte's escaped form -/
def form (keep : List UInt8) (c : UInt8) : List UInt8 := if stay keep c.toNat then [c] else [37, hexD (c.toNat / 16), hexD (c.toNat % 16)]
/-- a text's escaped form -/
def esf (keep l : List UInt8) : List UInt8 := l.flatMap (form keep)
theorem form_len (keep : List UInt8) (c : UInt8) : 1 ≤ (form keep c).length ∧ (form keep c).length ≤ 3 := by unfold form; split <;> simp
theorem esf_len (keep l : List UInt8) : (esf keep l).length ≤ 3 * l.length := by
  induction l with
  | nil => simp [esf]
  | cons c l ih => have := (form_len keep c).2; simp only [esf, List.flatMap_cons, List.length_append, List.length_cons] at *; omega
theorem hex_hexD : ∀ n : Nat, n < 16 → hex (hexD n).toNat = some n := by decide +kernel
theorem esc_form (c : UInt8) (t : List UInt8) : esc (hexD (c.toNat / 16) :: hexD (c.toNat % 16) :: t) = (c.toNat, 0) := by
  have h := c.toNat_lt
  rw [esc, hex_hexD _ (by omega), hex_hexD _ (by omega)]
  simp; omega
/-- what was escaped is unescaped: the bytes, each at the place where its form begins -/
def spots (keep : List UInt8) : List UInt8 → Nat → List (Nat × UInt8)
  | [], _ => []
  | c :: t, k => (k, c) :: spots keep t (k + (form keep c).length)
theorem spots_map (keep : List UInt8) (l : List UInt8) : ∀ k, (spots keep l k).map (·.2) = l := by
  induction l with
  | nil => intro k; rfl
  | cons c t ih => intro k; simp [spots, ih]
theorem un_esf (keep l : List UInt8) : ∀ k, un (esf keep l) k = (spots keep l k, 0, 0) := by
  induction l with
  | nil => intro k; rfl
  | cons c t ih =>
    intro k
    have e : esf keep (c :: t) = form keep c ++ esf keep t := by simp [esf]
    rw [e, spots]
    unfold form
    by_cases h : stay keep c.toNat = true
    · have h37 : c.toNat ≠ 37 := by
        intro e37; rw [stay, e37] at h; simp at h
      simp only [h, if_true, List.singleton_append, List.length_singleton]
      rw [un_plain _ _ h37, ih]
      simp [glue]
    · simp only [h, if_false, Bool.false_eq_true, List.cons_append, List.nil_append, List.length_cons, List.length_nil]
      rw [(un_ok (c := 37) k c.toNat rfl (esc_form c _)).1]
      simp only [List.drop_succ_cons, List.drop_zero]
      rw [ih]
      simp [glue]
end Go.Proofs.YteflghhpdikidaaDoor.Pct

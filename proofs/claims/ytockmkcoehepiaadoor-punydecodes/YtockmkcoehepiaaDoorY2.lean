/-
  What is proved here: plain mathematics of Punycode (no program): who decodes; digits that were written are read, digits that were read are written.
-/
import Derived.Test.YtockmkcoehepiaaDoorY1
namespace Go.Proofs.YtockmkcoehepiaaDoor

/-- a digit's value; -1: it is none -/
def valM (b : Int) : Int := if 97 ≤ b ∧ b ≤ 122 then b - 97 else if 65 ≤ b ∧ b ≤ 90 then b - 65 else if 48 ≤ b ∧ b ≤ 57 then b - 22 else -1
theorem val_bd (b : Int) : -1 ≤ valM b ∧ valM b ≤ 35 := by unfold valM; (repeat' split) <;> omega
def lowM (b : Int) : Int := if 65 ≤ b ∧ b ≤ 90 then b + 32 else b
theorem val_sgn {v : Int} (h0 : 0 ≤ v) (h1 : v < 36) : valM (sgnM v) = v := by unfold valM sgnM; (repeat' split) <;> omega
theorem sgn_val {b : Int} (h : 0 ≤ valM b) : sgnM (valM b) = lowM b := by unfold valM at h ⊢; unfold sgnM lowM; (repeat' split at h) <;> (repeat' split) <;> omega
/-- a right rune -/
def rgtB (r : Int) : Bool := decide (0 ≤ r ∧ r ≤ 1114111 ∧ ¬ (55296 ≤ r ∧ r ≤ 57343))
inductive NumR where
  | bad (a c : Nat)
  | ok (d : Int) (rest : List Int) (a : Nat)
/-- a number is read, from its k-th digit on -/
def rdM (bias : Int) : List Int → Nat → Int → Int → Int → NumR
  | [], a, _, _, _ => .bad a 2
  | b :: bs, a, k, sum, u => if valM b < 0 then .bad a 15 else if 2147483647 < sum + valM b * u then .bad a 3 else if valM b < bndM k bias then .ok (sum + valM b * u) bs (a + 1) else rdM bias bs (a + 1) (k + 1) (sum + valM b * u) (u * (36 - bndM k bias))
structure Dst where
  n : Int
  i : Int
  bias : Int
  first : Bool
  out : List Int
def insM (l : List Int) (a : Nat) (r : Int) : List Int := l.take a ++ r :: l.drop a
/-- the rune, and the place, that a number tells -/
def rD (s : Dst) (d : Int) : Int := s.n + (d + s.i) / (s.out.length + 1)
def aD (s : Dst) (d : Int) : Int := (d + s.i) % (s.out.length + 1)
def goD (s : Dst) (d : Int) : Dst := ⟨rD s d, aD s d + 1, biasM d (s.out.length + 1) s.first, false, insM s.out (aD s d).toNat (rD s d)⟩
inductive DecR where
  | bad (a c : Nat)
  | ok (out : List Int)
def decR : Nat → Dst → List Int → Nat → DecR
  | _, s, [], _ => .ok s.out
  | 0, s, _, _ => .ok s.out
  | f + 1, s, b :: bs, a => match rdM s.bias (b :: bs) a 0 0 1 with
    | .bad a c => .bad a c
    | .ok d rest a' => if rgtB (rD s d) = true then decR f (goD s d) rest a' else .bad (a' - 1) 4
/-- what comes behind a number -/
def contM (f : Nat) (s : Dst) : NumR → DecR
  | .bad a c => .bad a c
  | .ok d rest a' => if rgtB (rD s d) = true then decR f (goD s d) rest a' else .bad (a' - 1) 4
theorem contM_ok (f : Nat) (s : Dst) (d : Int) (rest : List Int) (a : Nat) : contM f s (.ok d rest a) = if rgtB (rD s d) = true then decR f (goD s d) rest a else .bad (a - 1) 4 := rfl
theorem decR_nil (f : Nat) (s : Dst) (a : Nat) : decR f s [] a = .ok s.out := by cases f <;> rfl
theorem decR_cons (f : Nat) (s : Dst) (b : Int) (bs : List Int) (a : Nat) : decR (f + 1) s (b :: bs) a = contM f s (rdM s.bias (b :: bs) a 0 0 1) := by
  rw [decR]
  cases rdM s.bias (b :: bs) a 0 0 1 <;> rfl
/-- from where on numbers are read: behind the last hyphen that isn't the first byte -/
def IsFrom (bs : List Int) (f : Nat) : Prop := f ≤ bs.length ∧ (f = 0 ∨ (2 ≤ f ∧ bs.getD (f - 1) 0 = 45)) ∧ ∀ i, 1 ≤ i → f ≤ i → i < bs.length → bs.getD i 0 ≠ 45
theorem from_unique {bs : List Int} {f g : Nat} (h : IsFrom bs f) (h' : IsFrom bs g) : f = g := by
  obtain ⟨a1, a2, a3⟩ := h
  obtain ⟨b1, b2, b3⟩ := h'
  rcases Nat.lt_trichotomy f g with e | e | e
  · rcases b2 with b2 | ⟨b2, b4⟩
    · omega
    · exact absurd b4 (a3 (g - 1) (by omega) (by omega) (by omega))
  · exact e
  · rcases a2 with a2 | ⟨a2, a4⟩
    · omega
    · exact absurd a4 (b3 (f - 1) (by omega) (by omega) (by omega))
/-- what is decoded, behind so many bytes -/
def decM (bs : List Int) (f : Nat) : DecR := decR bs.length ⟨128, 0, 72, true, bs.take (f - 1)⟩ (bs.drop f) f
/-- digits that were written are read -/
theorem rd_dig (bias : Int) (rest : List Int) : ∀ (f : Nat) (d k sum u : Int) (a : Nat), 0 ≤ d → d.toNat ≤ f → 0 ≤ sum → 1 ≤ u → sum + d * u ≤ 2147483647 → rdM bias ((digR f d bias k).map sgnM ++ rest) a k sum u = .ok (sum + d * u) rest (a + (digR f d bias k).length) := by
  intro f
  induction f with
  | zero =>
    intro d k sum u a h0 hf hs hu hb
    have hbd := bnd_bd k bias
    obtain rfl : d = 0 := by omega
    show rdM bias (sgnM 0 :: rest) a k sum u = _
    rw [rdM, val_sgn (by omega) (by omega), if_neg (by omega), if_neg (by omega), if_pos (by omega)]
    rfl
  | succ f ih =>
    intro d k sum u a h0 hf hs hu hb
    have hbd := bnd_bd k bias
    by_cases h : d < bndM k bias
    · rw [digR, if_pos h]
      show rdM bias (sgnM d :: rest) a k sum u = _
      rw [rdM, val_sgn (by omega) (by omega), if_neg (by omega), if_neg (by omega), if_pos h]
      rfl
    · have hn := next_bd hbd (by omega : bndM k bias ≤ d)
      rw [digR, if_neg h]
      generalize ht : bndM k bias = t at *
      have hq := Int.emod_add_mul_ediv (d - t) (36 - t)
      generalize (d - t) / (36 - t) = q at *
      generalize (d - t) % (36 - t) = m at *
      have hdv : d = t + m + (36 - t) * q := by omega
      have hmul : (36 - t) * q * u = q * (u * (36 - t)) := by rw [Int.mul_comm (36 - t) q, Int.mul_assoc, Int.mul_comm (36 - t) u]
      have hsum : sum + d * u = sum + (t + m) * u + q * (u * (36 - t)) := by rw [hdv, Int.add_mul, hmul, ← Int.add_assoc]
      have hpos : 0 ≤ q * (u * (36 - t)) := Int.mul_nonneg hn.1 (Int.mul_nonneg (by omega) (by omega))
      have hpos2 : 0 ≤ (t + m) * u := Int.mul_nonneg (by omega) (by omega)
      have hu2 : 1 ≤ u * (36 - t) := by
        have := Int.mul_le_mul_of_nonneg_left (show (1 : Int) ≤ 36 - t by omega) (show (0 : Int) ≤ u by omega)
        omega
      show rdM bias (sgnM (t + m) :: ((digR f q bias (k + 1)).map sgnM ++ rest)) a k sum u = _
      rw [rdM, val_sgn (by omega) (by omega), if_neg (by omega), if_neg (by omega), if_neg (by omega), ht, ih q (k + 1) (sum + (t + m) * u) (u * (36 - t)) (a + 1) hn.1 (by omega) (by omega) hu2 (by omega), ← hsum]
      congr 1
      simp
      omega
/-- digits that were read are those of the number, in small letters -/
theorem rd_ok (bias : Int) : ∀ (bs : List Int) (a : Nat) (k sum u : Int) (d' : Int) (rest : List Int) (a' : Nat), 0 ≤ sum → 1 ≤ u → rdM bias bs a k sum u = .ok d' rest a' →
    ∃ (C : List Int) (d : Int), bs = C ++ rest ∧ 0 ≤ d ∧ d' = sum + d * u ∧ d' ≤ 2147483647 ∧ a' = a + C.length ∧ 0 < C.length ∧ ∀ f, d.toNat ≤ f → C.map lowM = (digR f d bias k).map sgnM := by
  intro bs
  induction bs with
  | nil => intro a k sum u d' rest a' hs hu h; simp [rdM] at h
  | cons b bs ih =>
    intro a k sum u d' rest a' hs hu h
    have hbd := bnd_bd k bias
    have hv := val_bd b
    rw [rdM] at h
    by_cases h1 : valM b < 0
    · rw [if_pos h1] at h; cases h
    rw [if_neg h1] at h
    by_cases h2 : 2147483647 < sum + valM b * u
    · rw [if_pos h2] at h; cases h
    rw [if_neg h2] at h
    have hsg := sgn_val (b := b) (by omega)
    by_cases h3 : valM b < bndM k bias
    · rw [if_pos h3] at h
      injection h with e1 e2 e3
      subst e1 e2 e3
      refine ⟨[b], valM b, rfl, by omega, rfl, by omega, rfl, by simp, fun f hf => ?_⟩
      rw [digR_stop f _ bias k h3]
      simp [hsg]
    · rw [if_neg h3] at h
      have hpv : 0 ≤ valM b * u := Int.mul_nonneg (by omega) (by omega)
      have hu2 : 1 ≤ u * (36 - bndM k bias) := by
        have := Int.mul_le_mul_of_nonneg_left (show (1 : Int) ≤ 36 - bndM k bias by omega) (show (0 : Int) ≤ u by omega)
        omega
      obtain ⟨C, d, e1, e2, e3, e4, e5, e6, e7⟩ := ih (a + 1) (k + 1) (sum + valM b * u) (u * (36 - bndM k bias)) d' rest a' (by omega) hu2 h
      have hm0 : 0 ≤ (36 - bndM k bias) * d := Int.mul_nonneg (by omega) e2
      have hm1 : 1 * d ≤ (36 - bndM k bias) * d := Int.mul_le_mul_of_nonneg_right (by omega) e2
      have hq : (valM b + (36 - bndM k bias) * d - bndM k bias) / (36 - bndM k bias) = d := by
        rw [show valM b + (36 - bndM k bias) * d - bndM k bias = valM b - bndM k bias + (36 - bndM k bias) * d by omega, Int.add_mul_ediv_left _ _ (by omega), Int.ediv_eq_zero_of_lt (by omega) (by omega)]
        omega
      have hr : (valM b + (36 - bndM k bias) * d - bndM k bias) % (36 - bndM k bias) = valM b - bndM k bias := by
        rw [show valM b + (36 - bndM k bias) * d - bndM k bias = valM b - bndM k bias + (36 - bndM k bias) * d by omega, Int.add_mul_emod_self_left, Int.emod_eq_of_lt (by omega) (by omega)]
      refine ⟨b :: C, valM b + (36 - bndM k bias) * d, by rw [e1]; rfl, by omega, ?_, e4, by simp; omega, by simp, fun f hf => ?_⟩
      · rw [e3, Int.add_mul, Int.mul_comm (36 - bndM k bias) d, Int.mul_assoc, Int.mul_comm (36 - bndM k bias) u]; omega
      · obtain ⟨f', rfl, ee, hf'⟩ := digR_go f (valM b + (36 - bndM k bias) * d) bias k (by omega) hf
        rw [hq] at hf'
        rw [ee, hq, hr, List.map_cons, List.map_cons, e7 f' hf', ← hsg]
        congr 2
        omega
end Go.Proofs.YtockmkcoehepiaaDoor

/-
  What is proved here: what the reference's Digits answers at any number that an int holds, in tens.
-/
import Derived.Test.YtjjoedkigjekcaaGreatDoorJA
namespace Go.Proofs.YtjjoedkigjekcaaGreatDoor
open Go.RowKit

def dig (d : Nat) : UInt8 := if d < 10 then UInt8.ofNat (48 + d) else UInt8.ofNat (55 + d)
def digs (b : Nat) : Nat → Nat → List UInt8
  | 0, _ => []
  | f + 1, n => if n < b then [dig n] else digs b f (n / b) ++ [dig (n % b)]
theorem digs_ne (b f n : Nat) (h : 0 < f) : digs b f n ≠ [] := by
  cases f with
  | zero => omega
  | succ f => unfold digs; split <;> simp
/-- what is still to be written ahead of t -/
def restD (b f m : Nat) (t : List UInt8) : List UInt8 := if m = 0 ∧ t ≠ [] then t else digs b f m ++ t
theorem restD_step (b f m : Nat) (t : List UInt8) (hb : 0 < b) (h : 0 < m ∨ t = []) (hm : m < b ^ f) (hf : t.length + f = 20) :
    ∃ g, f = g + 1 ∧ restD b f m t = restD b g (m / b) (dig (m % b) :: t) ∧ m / b < b ^ g := by
  have hf1 : 0 < f := by
    rcases f with _ | f
    · rcases h with h | h
      · simp at hm; omega
      · rw [h] at hf; simp at hf
    · omega
  obtain ⟨g, rfl⟩ : ∃ g, f = g + 1 := ⟨f - 1, by omega⟩
  refine ⟨g, rfl, ?_, ?_⟩
  · unfold restD
    rw [if_neg (by rcases h with h | h <;> simp [h] <;> omega)]
    rw [digs]
    by_cases hlt : m < b
    · rw [if_pos hlt, if_pos ⟨Nat.div_eq_of_lt hlt, by simp⟩, Nat.mod_eq_of_lt hlt]; rfl
    · rw [if_neg hlt, if_neg (by have := Nat.div_pos (Nat.le_of_not_lt hlt) hb; omega)]
      simp
  · rw [Nat.div_lt_iff_lt_mul hb]
    rw [Nat.pow_succ] at hm
    exact hm
def emptyV : Value → Nat
  | .string s => if s.size = 0 then 1 else 0
  | _ => 0
theorem dig_num (d : Nat) (h : d < 16) : (dig d).toNat = if d < 10 then d + 48 else d + 55 := by
  have : ∀ d : Fin 16, (dig d.1).toNat = if d.1 < 10 then d.1 + 48 else d.1 + 55 := by decide
  exact this ⟨d, h⟩
theorem one_dig (c : Int) (d : Nat) (t : List UInt8) (h : c = (dig d).toNat) : strOfNums [c] ++ strL t = strL (dig d :: t) := by
  subst h
  have : strOfNums [((dig d).toNat : Int)] = strL [dig d] := by simp [strOfNums, strL]
  rw [this, strL_append]
  rfl
set_option maxHeartbeats 1000000 in
set_option maxRecDepth 20000 in
theorem refDigits_any (b n : Nat) (w : World) (hb : b = 10) (hn : n < 9223372036854775808) :
    Calls Tryz.prog 27 #[.int .i64 n, .int .i64 b] w fun e w' => e = .returned (.string (strL (digs b 20 n))) ∧ Below w.heap.size w w' := by
  have hn2 := hn
  have HN : Hid (n < b ^ 20) := by show n < b ^ 20; rw [hb]; omega
  clear hn
  obtain ⟨B, hB⟩ : ∃ B : Nat, Hid (B = b) := ⟨b, Hid.mk' rfl⟩
  have HN2 : Hid (n < B ^ 20) := Hid.mk' (by rw [hB.out]; exact HN.out)
  clear HN
  have HR : Hid (strL (digs b 20 n) = strL (digs B 20 n)) := Hid.mk' (by rw [hB.out])
  subst hb
  all_goals
    go_enter Tryz.func27, Tryz.ntmps27
    go_wp2
    go_loopw [0, 5] (fun x y wr => ∃ (f m : Nat) (t : List UInt8) (s : ByteArray), x = .int .i64 m ∧ y = .string s ∧ s.size ≤ 20 ∧ Hid (s = strL t) ∧ m < 9223372036854775808 ∧ Hid (m < B ^ f) ∧ Hid (t.length + f = 20) ∧ Hid (restD B f m t = digs B 20 n) ∧ Below w.heap.size w wr) (fun x y _ => (intOf x).toNat + emptyV y)
    case atStart => exact ⟨20, n, [], ⟨#[]⟩, rfl, rfl, by decide, Hid.mk' rfl, hn2, HN2, Hid.mk' rfl, Hid.mk' (by simp [restD]), Below.refl _ _⟩
    case round =>
      obtain ⟨f, m, t, s, rfl, rfl, hsz, hs, hm, hmf, hf, hr, hbw⟩ := hrel
      have hcase : (0 < m ∧ Hid (0 < m ∨ t = [])) ∨ (m = 0 ∧ s = ⟨#[]⟩ ∧ Hid (0 < m ∨ t = [])) ∨ (m = 0 ∧ s.toList.isEmpty = false ∧ Hid (t ≠ [])) := by
        by_cases h1 : 0 < m
        · exact .inl ⟨h1, Hid.mk' (.inl h1)⟩
        · by_cases h2 : t = []
          · exact .inr (.inl ⟨by omega, by rw [hs.out, h2]; rfl, Hid.mk' (.inr h2)⟩)
          · refine .inr (.inr ⟨by omega, ?_, Hid.mk' h2⟩)
            rw [hs.out]
            cases t with
            | nil => exact absurd rfl h2
            | cons a t => rw [ByteArray.toList_eq]; rfl
      have hround : Hid (0 < m ∨ t = [] → ∃ g, f = g + 1 ∧ restD B g (m / B) (dig (m % B) :: t) = digs B 20 n ∧ m / B < B ^ g) := Hid.mk' (fun h => by
        obtain ⟨g, h0, h1, h2⟩ := restD_step B f m t (by rw [hB.out]; omega) h hmf.out hf.out
        exact ⟨g, h0, h1 ▸ hr.out, h2⟩)
      have hcv : ∀ x : Int, _ := fun x => conv_one wr x
      have hz : ∀ x : Int, (strOfNums [x]).size = 1 := fun x => strOfNums_size _
      have hdn : Hid (∀ x : Int, (x = if m % B < 10 then ((m % B : Nat) : Int) + 48 else ((m % B : Nat) : Int) + 55) → strOfNums [x] ++ s = strL (dig (m % B) :: t)) := Hid.mk' (fun x h => by
        rw [hs.out]
        refine one_dig x _ t ?_
        rw [h, dig_num _ (by have := Nat.mod_lt m (show 0 < B by rw [hB.out]; omega); have := hB.out; omega)]
        split <;> simp)
      rcases hcase with ⟨h0, ht⟩ | ⟨rfl, rfl, ht⟩ | ⟨rfl, hs0, ht⟩
      · go_wp2
        all_goals
          go_roundw
          case rel =>
            obtain ⟨g, rfl, h1, h2⟩ := hround.out ht.out
            have hB' := hB.out
            refine ⟨g, m / B, _, _, ?_, rfl, ?_, Hid.mk' (hdn.out _ ?_), ?_, Hid.mk' h2, Hid.mk' ?_, Hid.mk' h1, hbw.alloc hbw.size _⟩
            · rw [hB']; go_num
            · have h3 := hf.out; rw [ByteArray.size_append, hz, hs.out]; simp [strL, ByteArray.size]; omega
            · rw [hB']; split <;> omega
            · have := Nat.div_le_self m B; omega
            · have := hf.out; simp; omega
          case measure => simp [intOf, emptyV, hz]; omega
      · go_wp2
        go_roundw
        case rel =>
          obtain ⟨g, rfl, h1, h2⟩ := hround.out ht.out
          refine ⟨g, 0 / B, _, _, ?_, rfl, ?_, Hid.mk' (hdn.out _ ?_), ?_, Hid.mk' h2, Hid.mk' ?_, Hid.mk' h1, hbw.alloc hbw.size _⟩
          · simp
          · rw [ByteArray.size_append, hz]; decide
          · simp
          · simp
          · have := hf.out; simp; omega
        case measure => simp [intOf, emptyV, hz]; rw [if_pos (show (⟨#[]⟩ : ByteArray) = ByteArray.empty from rfl)]; exact Nat.one_pos
      · have hfin : Hid (s = strL (digs B 20 n)) := Hid.mk' (by have h := ht.out; rw [hs.out, ← hr.out]; simp [restD, h])
        clear hround
        go_wp2
        go_ret
        rw [HR.out, ← hfin.out]
        exact ⟨rfl, hbw⟩
end Go.Proofs.YtjjoedkigjekcaaGreatDoor

/-
  What is proved here: what the document's Decode answers at texts that are too long, or have a byte that isn't plain; where it stands within a text.
-/
import Derived.Test.YtockmkcoehepiaaDoorLawTh
namespace Go.Proofs.YtockmkcoehepiaaDoor
open Go.RowKit

/-- what the document's Decode leaves -/
def RefIs (w w' : World) (e : Ending) : DecR → Prop
  | .bad a c => e = .returned (.tuple #[.slice none 0 0, .int .i64 (a : Int), .int .i64 (c : Int)]) ∧ Below w.heap.size w w'
  | .ok out => ∃ v, e = .returned (.tuple #[v, .int .i64 0, .int .i64 0]) ∧ w'.ownsRow w.heap.size 21 1 v out.length (cellsOf out) ∧ Below w.heap.size w w'
set_option maxRecDepth 20000 in
set_option maxHeartbeats 1000000 in
theorem refDecode_long (s : ByteArray) (w : World) (hs : 120 < s.size) (hs2 : s.size ≤ 9223372036854775807) :
    Calls Tryd.prog 28 #[.string s] w fun e w' => RefIs w w' e (.bad 0 3) := by
  simp only [RefIs]
  go_enter Tryd.func28, Tryd.ntmps28
  go_wp2
  go_ret3
  exact ⟨rfl, Below.refl _ _⟩
theorem fromK_zero {bs : List Int} {f : Nat} (h : IsFromK bs 0 f) : IsFromK bs 1 f := ⟨by have := h.1; omega, h.2.1, fun i h0 h1 h2 => by omega⟩
set_option maxRecDepth 20000 in
set_option maxHeartbeats 1000000 in
theorem refDecode_high (s : ByteArray) (w : World) (hs : s.size ≤ 120) (q : Nat) (hq : highAt s = q) :
    Calls Tryd.prog 28 #[.string s] w fun e w' => RefIs w w' e (.bad q 1) := by
  obtain ⟨hqs, hqh, hql⟩ : ∃ h : q < s.size, 128 ≤ (s[q]'h).toNat ∧ ∀ j (hj : j < q), (s[j]'(by omega)).toNat < 128 := by
    rcases high_spec s s.size 0 (by omega) with ⟨e, -⟩ | ⟨i, e, -, h1, h2, h3⟩
    · unfold highAt at hq; omega
    · obtain rfl : i = q := by unfold highAt at hq; omega
      exact ⟨h1, h2, fun j hj => h3 j (Nat.zero_le _) hj⟩
  have HQL := Hid.mk' hql
  simp only [RefIs]
  clear hq hql
  go_enter Tryd.func28, Tryd.ntmps28
  go_wp2
  go_loop [5, 6] (fun x y => ∃ f k : Nat, x = .int .i64 f ∧ y = .int .i64 k ∧ k ≤ q) (fun _ y => s.size - (intOf y).toNat)
  case atStart => exact ⟨0, 0, rfl, rfl, Nat.zero_le _⟩
  case round =>
    obtain ⟨f, k, rfl, rfl, hk⟩ := hrel
    by_cases hlt : k < q
    · have hks : k < s.size := by omega
      have hb := HQL.out k hlt
      have hlz : (k : Int) < (s.size : Int) := by omega
      have hbz : ((s[k]'hks).toNat : Int) ≤ 127 := by omega
      have hbd : decide (127 < ((s[k]'hks).toNat : Int)) = false := decide_eq_false (by omega)
      by_cases h45 : ((s[k]'hks).toNat : Int) = 45
      · have hq : (((s[k]'hks).toNat : Int) == 45) = true := by simpa using h45
        by_cases hk0 : 0 < k
        · have hk0d : decide (0 < (k : Int)) = true := decide_eq_true (by omega)
          clear h45
          go_wp2
          go_round
          case rel => exact ⟨k + 1, k + 1, by go_num, by go_num, by omega⟩
          case measure => simp [intOf]; omega
        · have hk0d : decide (0 < (k : Int)) = false := decide_eq_false (by omega)
          clear h45
          go_wp2
          go_round
          case rel => exact ⟨f, k + 1, rfl, by go_num, by omega⟩
          case measure => simp [intOf]; omega
      · have hq : (((s[k]'hks).toNat : Int) == 45) = false := by simpa using h45
        clear h45
        go_wp2
        go_round
        case rel => exact ⟨f, k + 1, rfl, by go_num, by omega⟩
        case measure => simp [intOf]; omega
    · obtain rfl : k = q := by omega
      have hlz : (k : Int) < (s.size : Int) := by omega
      have hbd : decide (127 < ((s[k]'hqs).toNat : Int)) = true := decide_eq_true (by omega)
      have hbz : 127 < ((s[k]'hqs).toNat : Int) := by omega
      go_wp2
      go_ret3
      exact ⟨rfl, Below.refl _ _⟩
/-- where the document's Decode stands: between two numbers (k is 0), or within one -/
def AtD (s : ByteArray) (g : Nat) (st : Dst) (at1 k : Nat) (d u : Int) (R : DecR) : Prop :=
  s.size ≤ at1 + g ∧ ((k = 0 ∧ d = 0 ∧ u = 1 ∧ decR g st ((bytesM s).drop at1) at1 = R) ∨ (0 < k ∧ contM g st (rdM st.bias ((bytesM s).drop at1) at1 k d u) = R))
theorem atD_step {s : ByteArray} {g : Nat} {st : Dst} {at1 k : Nat} {d u : Int} {R : DecR} (h : AtD s g st at1 k d u R) (hlt : at1 < s.size) : ∃ g', s.size ≤ at1 + 1 + g' ∧ contM g' st (if valM ((s[at1]'hlt).toNat : Int) < 0 then NumR.bad at1 15 else if 2147483647 < d + valM ((s[at1]'hlt).toNat : Int) * u then .bad at1 3 else if valM ((s[at1]'hlt).toNat : Int) < bndM k st.bias then .ok (d + valM ((s[at1]'hlt).toNat : Int) * u) ((bytesM s).drop (at1 + 1)) (at1 + 1) else rdM st.bias ((bytesM s).drop (at1 + 1)) (at1 + 1) (k + 1) (d + valM ((s[at1]'hlt).toNat : Int) * u) (u * (36 - bndM k st.bias))) = R := by
  obtain ⟨h1, h2⟩ := h
  rcases h2 with ⟨rfl, rfl, rfl, h2⟩ | ⟨h0, h2⟩
  · obtain ⟨g', rfl⟩ : ∃ g', g = g' + 1 := ⟨g - 1, by omega⟩
    refine ⟨g', by omega, ?_⟩
    rw [bytes_drop s at1 hlt, decR_cons, rdM] at h2
    exact h2
  · refine ⟨g, by omega, ?_⟩
    rw [bytes_drop s at1 hlt, rdM] at h2
    exact h2
theorem atD_end {s : ByteArray} {g : Nat} {st : Dst} {k : Nat} {d u : Int} {R : DecR} (h : AtD s g st s.size k d u R) : R = if 0 < k then DecR.bad s.size 2 else .ok st.out := by
  obtain ⟨h1, h2⟩ := h
  have e : (bytesM s).drop s.size = [] := List.drop_of_length_le (by rw [bytes_len]; exact Nat.le_refl _)
  rw [e] at h2
  rcases h2 with ⟨rfl, rfl, rfl, h2⟩ | ⟨h0, h2⟩
  · rw [if_neg (by omega), ← h2, decR_nil]
  · rw [if_pos h0, ← h2, rdM]
    rfl
end Go.Proofs.YtockmkcoehepiaaDoor

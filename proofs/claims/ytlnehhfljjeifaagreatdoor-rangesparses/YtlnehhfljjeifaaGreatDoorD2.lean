/-
  What is proved here: what the reference's hex and Line answer.
-/
import Derived.Test.YtlnehhfljjeifaaGreatDoorD1
namespace Go.Proofs.YtlnehhfljjeifaaGreatDoor
open Go.RowKit

theorem strL_size (l : List UInt8) : (strL l).size = l.length := by simp [strL, ByteArray.size]
theorem digs_len8 (b n : Nat) (hb : 2 ≤ b) (hn : n < b ^ 8) : (digs b 8 n).length ≤ 8 := digs_len hb 8 8 n (by omega) (by omega) hn
theorem hexT_len8 (n : Nat) (hn : n < 16 ^ 8) : (hexT n).length ≤ 8 := by
  have := digs_len8 16 n (by omega) hn
  unfold hexT
  simp
  omega
set_option maxHeartbeats 1000000 in
set_option maxRecDepth 20000 in
theorem refHex_any (n : Nat) (w : World) (hn : n < 2147483648) :
    Calls Tryz.prog 26 #[.int .i32 n] w fun e w' => e = .returned (.string (strL (hexT n))) ∧ Below w.heap.size w w' := by
  have HD := Hid.mk' (refDigits_any 16 n w (.inr rfl) (by omega))
  have hl := digs_len8 16 n (by omega) (by omega)
  have HH : Hid (hexT n = List.replicate (4 - (digs 16 8 n).length) 48 ++ digs 16 8 n) := Hid.mk' rfl
  generalize digs 16 8 n = D at *
  generalize hexT n = H at *
  have hz := Hid.mk' (strL_size D)
  generalize hS : strL D = S at HD hz
  have hS := Hid.mk' hS
  go_enter Tryz.func26, Tryz.ntmps26
  go_wp2_with (go_at_call 27; refine HD.out.mono ?_; rintro e w1 ⟨rfl, hb1⟩)
  go_loop [3] (fun x => ∃ (k : Nat) (s : ByteArray), x = .string s ∧ s.size ≤ 8 ∧ Hid (s = strL (List.replicate k 48 ++ D)) ∧ Hid (0 < k → k + D.length ≤ 4)) (fun y => 4 - sizeOfV y)
  case atStart => exact ⟨0, S, rfl, by rw [hz.out]; exact hl, Hid.mk' hS.out.symm, Hid.mk' (by omega)⟩
  case round =>
    obtain ⟨k, s, rfl, hs8, hs, hk⟩ := hrel
    have hsz : Hid (s.size = k + D.length) := Hid.mk' (by rw [hs.out, strL_size]; simp)
    by_cases h4 : s.size < 4
    · have h1 : Hid ((⟨#[48]⟩ : ByteArray) ++ s = strL (List.replicate (k + 1) 48 ++ D)) := Hid.mk' (by rw [hs.out]; exact strL_append [48] _)
      have h2 : (⟨#[48]⟩ : ByteArray).size = 1 := rfl
      go_wp2
      go_roundw
      case rel =>
        have := hsz.out
        exact ⟨k + 1, _, rfl, by rw [ByteArray.size_append, h2]; omega, h1, Hid.mk' (by omega)⟩
      case measure => simp [sizeOfV, h2]; omega
    · have hfin : Hid (s = strL H) := Hid.mk' (by
        have h1 := hsz.out
        have h2 := hk.out
        rw [hs.out, HH.out]
        have : k = 4 - D.length := by omega
        rw [this])
      go_wp2
      go_ret
      rw [← hfin.out]
      exact ⟨rfl, hb1⟩
end Go.Proofs.YtlnehhfljjeifaaGreatDoor

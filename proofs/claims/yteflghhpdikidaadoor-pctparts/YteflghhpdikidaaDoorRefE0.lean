/-
  What is proved here: what the reference's Plain, has, hex and Escape (layer 2) answer.
-/
import Derived.Test.YteflghhpdikidaaDoorLawB
namespace Go.Proofs.YteflghhpdikidaaDoor
open Go.RowKit

set_option maxHeartbeats 2000000 in
theorem refPlain_any (b : Nat) (w : World) (hb : b < 256) :
    Calls Tryd.prog 18 #[.int .u8 b] w fun e w' => e = .returned (.bool (Pct.plain b)) ∧ w = w' := by
  rcases (show (97 ≤ b ∧ b ≤ 122) ∨ (65 ≤ b ∧ b ≤ 90) ∨ (48 ≤ b ∧ b ≤ 57) ∨ b = 45 ∨ b = 46 ∨ b = 95 ∨ b = 126 ∨ b < 45 ∨ b = 47 ∨ (57 < b ∧ b < 65) ∨ (90 < b ∧ b < 95) ∨ b = 96 ∨ (122 < b ∧ b < 126) ∨ 126 < b from by omega) with ⟨h1, h2⟩ | ⟨h1, h2⟩ | ⟨h1, h2⟩ | rfl | rfl | rfl | rfl | h1 | rfl | ⟨h1, h2⟩ | ⟨h1, h2⟩ | rfl | ⟨h1, h2⟩ | h1
  all_goals
    go_enter Tryd.func18, Tryd.ntmps18
    go_wp2
    go_ret
    refine ⟨ret_bool ?_, rfl⟩
    unfold Pct.plain
    first | rfl | (rw [Bool.eq_iff_iff]; simp; omega)

set_option maxHeartbeats 1000000 in
theorem refHas_any (s : ByteArray) (b : Nat) (w : World) (hs : s.size ≤ 2147483648) :
    Calls Tryd.prog 32 #[.string s, .int .u8 b] w fun e w' => e = .returned (.bool (hasB [s] b)) ∧ w = w' := by
  go_enter Tryd.func32, Tryd.ntmps32
  go_wp2
  go_loop [5] (fun i => ∃ k : Nat, k ≤ s.size ∧ i = .int .i64 k ∧ Hid (((s.data.toList.take k).any fun c => c.toNat == b) = false)) (fun i => s.size - (intOf i).toNat)
  case atStart => exact ⟨0, Nat.zero_le _, rfl, rfl⟩
  case round =>
    obtain ⟨k, hk, rfl, HA⟩ := hrel
    by_cases hlt : k < s.size
    · have HN := Hid.mk' (any_snoc s k hlt b)
      by_cases he : s[k].toNat = b
      · have hez : ((s[k].toNat : Int) == (b : Int)) = true := by simp; omega
        have HT : Hid ((s.data.toList.any fun c => c.toNat == b) = true) := by
          show _ = _
          rw [List.any_eq_true]
          refine ⟨s[k], ?_, by simpa using he⟩
          exact Array.mem_def.1 (Array.getElem_mem (xs := s.data) hlt)
        clear he
        go_wp2
        go_ret
        exact ⟨ret_bool ((hasB_one s b).trans HT.out).symm, rfl⟩
      · have hez : ((s[k].toNat : Int) == (b : Int)) = false := by simp; omega
        have HT : Hid (((s.data.toList.take (k + 1)).any fun c => c.toNat == b) = false) := by
          show _ = _
          rw [HN.out, HA.out]; simpa using he
        clear he
        go_wp2
        go_round
        case rel => exact ⟨k + 1, by omega, by go_num, HT⟩
        case measure => simp [intOf]; omega
    · have ht : s.data.toList.take k = s.data.toList := List.take_of_length_le (by have : s.data.toList.length = s.size := rfl; omega)
      rw [ht] at HA
      clear ht
      go_wp2
      go_ret
      exact ⟨ret_bool ((hasB_one s b).trans HA.out).symm, rfl⟩

theorem hexD_num : ∀ n : Nat, n < 16 → (Pct.hexD n).toNat = if n < 10 then 48 + n else 55 + n := by decide +kernel
set_option maxHeartbeats 1000000 in
theorem refHex_any (n : Int) (w : World) (h0 : 0 ≤ n) (hn : n < 16) :
    Calls Tryd.prog 33 #[.int .u8 n] w fun e w' => e = .returned (.int .u8 (Pct.hexD n.toNat).toNat) ∧ w = w' := by
  have HD := Hid.mk' (hexD_num n.toNat (by omega))
  by_cases h : n < 10
  all_goals
    go_enter Tryd.func33, Tryd.ntmps33
    go_wp2
    go_ret
    refine ⟨ret_int ?_, rfl⟩
    rw [HD.out]
  · rw [if_pos (by omega)]; omega
  · rw [if_neg (by omega)]; omega

theorem conv_new (w : World) (bs : List Int) :
    (convert 52 9 (.slice (some ⟨w.heap.size, 0, none⟩) bs.length bs.length)).run Tryd.prog (w.alloc (.cells (bs.map (Value.int .u8)).toArray 5)) = .ok (.string (strOfNums bs)) (w.alloc (.cells (bs.map (Value.int .u8)).toArray 5)) := by
  refine run_convert_bytes_arg _ 52 5 Tryd.underlying52 Tryd.underlying5 w.heap.size 0 _ _ bs rfl (fun j hj => ?_) _ Tryd.underlying9
  rw [Nat.zero_add, World.cell?_alloc_new]
  simp [List.getElem?_eq_getElem hj]

end Go.Proofs.YteflghhpdikidaaDoor

/-
  What is proved here: slices.Sort at one rune; the laws' Same at equal runes; what the laws of layer 4's awake answers.
-/
import Derived.Test.YtojpkkbagcahdaaDoorB3
namespace Go.Proofs.YtojpkkbagcahdaaDoor
open Go.RowKit

set_option maxRecDepth 20000 in
set_option maxHeartbeats 1000000 in
theorem len64_one (w : World) : Calls Tryd.prog 93 #[.int .u64 1] w fun e w' => (∃ l : Int, e = .returned (.int .i64 l)) ∧ w = w' := by
  go_enter Tryd.func93, Tryd.ntmps93
  go_wp2
  go_ret
  exact ⟨⟨_, rfl⟩, rfl⟩
set_option maxRecDepth 20000 in
set_option maxHeartbeats 1000000 in
theorem len_one (w : World) : Calls Tryd.prog 72 #[.int .u64 1] w fun e w' => (∃ l : Int, e = .returned (.int .i64 l)) ∧ w = w' := by
  go_enter Tryd.func72, Tryd.ntmps72
  go_wp2_with fail
  refine (len64_one w).mono ?_
  rintro e w' ⟨⟨l, rfl⟩, rfl⟩
  go_wp2
  go_ret
  exact ⟨⟨_, rfl⟩, rfl⟩
set_option maxHeartbeats 1000000 in
theorem insertion_one (a : Option Addr) (cap : Nat) (w : World) : Calls Tryd.prog 83 #[.slice a 1 cap, .int .i64 0, .int .i64 1] w fun e w' => e = .returned (.tuple #[]) ∧ w = w' := by
  go_enter Tryd.func83, Tryd.ntmps83
  go_wp2
  refine wp_loop_rounds 1 ?_
  rw [rounds_succ]
  go_wp2
  go_end0
  exact ⟨rfl, rfl⟩
set_option maxRecDepth 20000 in
set_option maxHeartbeats 1000000 in
theorem pdq_one (a : Option Addr) (cap : Nat) (l : Int) (w : World) : Calls Tryd.prog 71 #[.slice a 1 cap, .int .i64 0, .int .i64 1, .int .i64 l] w fun e w' => e = .returned (.tuple #[]) ∧ w = w' := by
  have HI := Hid.mk' (insertion_one a cap w)
  go_enter Tryd.func71, Tryd.ntmps71
  go_wp2
  refine wp_loop_rounds 1 ?_
  rw [rounds_succ]
  go_wp2_with (go_at_call 83; refine HI.out.mono ?_; rintro e w' ⟨rfl, rfl⟩)
  (try simp only [Exit.inBlock, Exit.then]); refine bodyPost_ret (results_none rfl _ _ _) rfl ?_
  exact ⟨rfl, rfl⟩
set_option maxRecDepth 20000 in
set_option maxHeartbeats 1000000 in
theorem sort_one (B : Nat) : SortsAt 1 B := by
  intro W v rs hl ho
  obtain ⟨a, c, rfl⟩ := own_slice ho
  rw [hl] at ho ⊢
  have HL := Hid.mk' (len_one W)
  have HP := Hid.mk' (fun l => pdq_one a c l W)
  have HO := Hid.mk' ho
  clear ho
  go_enter Tryd.func50, Tryd.ntmps50
  go_wp2_with fail
  refine HL.out.mono ?_
  rintro e w' ⟨⟨l, rfl⟩, rfl⟩
  go_wp2_with fail
  refine (HP.out l).mono ?_
  rintro e w' ⟨rfl, rfl⟩
  go_wp2
  go_end0
  refine ⟨rfl, rs, List.Perm.refl _, fun i j hij hj => ?_, HO.out, fun w0 h => h⟩
  obtain rfl : i = 0 := by omega
  obtain rfl : j = 0 := by omega
  exact Int.le_refl _
set_option maxHeartbeats 1000000 in
theorem same_any (va vb : Value) (rs : List Int) (w : World) (hl : rs.length ≤ 268435456) (ha : Runes w va rs) (hb : Runes w vb rs) :
    Calls Tryd.prog 14 #[va, vb] w fun e w' => e = .returned (.bool true) ∧ Below w.heap.size w w' := by
  obtain ⟨a, ca, rfl, ha⟩ := ha
  obtain ⟨b, cb, rfl, hb⟩ := hb
  have HA := Hid.mk' ha
  have HB := Hid.mk' hb
  clear ha hb
  go_enter Tryd.func14, Tryd.ntmps14
  go_wp2
  go_loopw [5] (fun i wr => ∃ k : Nat, k ≤ rs.length ∧ i = .int .i64 k ∧ Below w.heap.size w wr) (fun i _ => rs.length - (intOf i).toNat)
  case atStart => exact ⟨0, Nat.zero_le _, rfl, Below.refl _ _⟩
  case round =>
    obtain ⟨k, hk, rfl, hbel⟩ := hrel
    by_cases hlt : k < rs.length
    · obtain ⟨ba, oa, rfl, ca0⟩ := HA.out k hlt
      obtain ⟨bb, ob, rfl, cb0⟩ := HB.out k hlt
      have hca := (hbel.cell (p := ⟨ba, oa + k, none⟩) (lt_of_cell ca0)).trans ca0
      have hcb := (hbel.cell (p := ⟨bb, ob + k, none⟩) (lt_of_cell cb0)).trans cb0
      clear ca0 cb0
      generalize rs.getD k 0 = r at hca hcb
      go_wp2
      go_region
      go_wp2
      go_roundw
      case rel => exact ⟨k + 1, by omega, by go_num, hbel.drew⟩
      case measure => simp [intOf]; omega
    · go_wp2
      go_ret
      exact ⟨rfl, hbel⟩
def exNorm : Nm := ⟨[⟨233, [101, 769]⟩], [⟨769, 769, 230⟩], []⟩
theorem exNorm_chk : chk4 exNorm = (0, 0) := by decide
theorem exNorm_one : oneM exNorm.rows 233 = [101, 769] := by decide
theorem exNorm_syl : oneM exNorm.rows 44033 = [4352, 4449, 4520] := by decide
end Go.Proofs.YtojpkkbagcahdaaDoor

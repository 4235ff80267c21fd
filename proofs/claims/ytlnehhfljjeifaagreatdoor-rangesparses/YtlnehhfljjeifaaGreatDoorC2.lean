/-
  What is proved here: what the reference's Same answers at two lists that are the same.
-/
import Derived.Test.YtlnehhfljjeifaaGreatDoorC1
import Derived.Laws.StructEq
namespace Go.Proofs.YtlnehhfljjeifaaGreatDoor
open Go.RowKit

theorem neqRg (r : Rg) (w : World) : (binOp .neq 28 (.agg #[.int .i32 r.lo, .int .i32 r.hi, .int .i64 r.val]) (.agg #[.int .i32 r.lo, .int .i32 r.hi, .int .i64 r.val])).run Tryz.prog w = .ok (.bool false) w := by
  have u3 := Tryz.underlying3
  have u21 := Tryz.underlying21
  have a3 := Tryz.isAgg3
  have a21 := Tryz.isAgg21
  have z3 := Tryz.sizeOf3
  have z21 := Tryz.sizeOf21
  have hS : Tryz.prog.underlying 28 = some (.struct (Tryz.prog.fieldsOf 28)) := by kernel_rfl
  have hp : Tryz.prog.stoodInHeld 28 = false := by kernel_rfl
  rw [run_neq_struct, show (10000 : Nat) = 9999 + 1 from rfl, run_equalIn_agg w 9999 28 _ _ hS hp]
  simp only [Program.fieldsOf, Tryz.underlying28]
  go_simp
set_option maxHeartbeats 1000000 in
theorem same_any (v u : Value) (l : List Rg) (w : World) (hv : Tab w v l) (hu : Tab w u l) (hl : l.length ≤ 2147483648) :
    Calls Tryz.prog 11 #[v, u] w fun e w' => e = .returned (.bool true) ∧ Below w.heap.size w w' := by
  obtain ⟨a, c, rfl, hv⟩ := hv
  obtain ⟨a2, c2, rfl, hu⟩ := hu
  have HV := Hid.mk' hv
  have HU := Hid.mk' hu
  clear hv hu
  go_enter Tryz.func11, Tryz.ntmps11
  go_wp2
  go_loopw [5] (fun x wr => ∃ k : Nat, x = .int .i64 k ∧ k ≤ l.length ∧ Below w.heap.size w wr) (fun y _ => l.length - (intOf y).toNat)
  case atStart => exact ⟨0, rfl, Nat.zero_le _, Below.refl _ _⟩
  case round =>
    obtain ⟨k, rfl, hk, hb⟩ := hrel
    by_cases hlt : k < l.length
    · obtain ⟨b, off, rfl, hc⟩ := HV.out k hlt
      obtain ⟨b2, off2, rfl, hc2⟩ := HU.out k hlt
      obtain ⟨d0, d1, d2⟩ := three_of (w := wr) (b := b) (o := off + k * 3) (r := l.getD k default) (fun j hj => by rw [← hc j hj]; exact hb.cell (p := ⟨b, off + k * 3 + j, none⟩) (lt_of_cell (hc 0 (by omega))))
      obtain ⟨f0, f1, f2⟩ := three_of (w := wr) (b := b2) (o := off2 + k * 3) (r := l.getD k default) (fun j hj => by rw [← hc2 j hj]; exact hb.cell (p := ⟨b2, off2 + k * 3 + j, none⟩) (lt_of_cell (hc2 0 (by omega))))
      clear hc hc2
      generalize l.getD k default = q at *
      have hn := fun W => neqRg q W
      go_wp2
      go_region
      go_wp2
      go_roundw
      case rel => exact ⟨k + 1, by go_num, by omega, hb.drew⟩
      case measure => simp [intOf]; omega
    · obtain rfl : k = l.length := by omega
      go_wp2
      go_ret
      exact ⟨rfl, hb⟩
end Go.Proofs.YtlnehhfljjeifaaGreatDoor

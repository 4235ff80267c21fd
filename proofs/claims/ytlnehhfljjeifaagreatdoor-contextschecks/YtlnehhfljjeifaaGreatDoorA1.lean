/-
  What is proved here: what utf.Right, hasHangul, mayStand, formed, fromOf and itself answer; rows in memory.
-/
import Derived.Test.YtlnehhfljjeifaaGreatDoorA0
import Derived.Test.YtlnehhfljjeifaaGreatDoorBase
namespace Go.Proofs.YtlnehhfljjeifaaGreatDoor
open Go.RowKit

/-- a rune's width -/
def wid (r : Int) : Int := if r < 0 ∨ 1114111 < r then 0 else if r < 128 then 1 else if r < 2048 then 2 else if 55296 ≤ r ∧ r ≤ 57343 then 0 else if r < 65536 then 3 else 4
theorem wid_right (r : Int) : decide (0 < wid r) = rightR r := by
  unfold wid rightR; rw [decide_eq_decide]; (repeat' split) <;> omega
set_option maxHeartbeats 400000 in
theorem width_any (r : Int) (w : World) :
    Calls Tryz.prog 146 #[.int .i32 r] w fun e w' => e = .returned (.int .i64 (wid r)) ∧ w = w' := by
  go_enter Tryz.func146, Tryz.ntmps146
  go_wp2
  all_goals go_ret
  all_goals refine ⟨ret_int ?_, rfl⟩
  all_goals (unfold wid; (repeat' split) <;> omega)
set_option maxHeartbeats 400000 in
theorem right_rune (r : Int) (w : World) :
    Calls Tryz.prog 109 #[.int .i32 r] w fun e w' => e = .returned (.bool (rightR r)) ∧ w = w' := by
  rw [← wid_right]
  have HW := Hid.mk' (width_any r w)
  generalize wid r = x at *
  go_enter Tryz.func109, Tryz.ntmps109
  go_wp2_with fail
  refine HW.out.mono ?_
  rintro e w' ⟨rfl, rfl⟩
  go_wp2
  go_ret
  exact ⟨rfl, rfl⟩
set_option maxRecDepth 100000 in
set_option maxHeartbeats 2000000 in
theorem hasHangul_any (lo hi : Int) (w : World) (p : Nat → Addr) (hg : Gl p w) :
    Calls Tryz.prog 108 #[.int .i32 lo, .int .i32 hi] w fun e w' => e = .returned (.bool (hangs lo hi)) ∧ Below w.heap.size w w' := by
  have HT : Hid (((lo ≤ 55203 ∧ 44032 ≤ hi) ∨ (lo ≤ 4370 ∧ 4352 ≤ hi) ∨ (lo ≤ 4469 ∧ 4449 ≤ hi) ∨ (lo ≤ 4546 ∧ 4520 ≤ hi)) → hangs lo hi = true) := fun h => by unfold hangs; exact decide_eq_true h
  have HF : Hid (¬ ((lo ≤ 55203 ∧ 44032 ≤ hi) ∨ (lo ≤ 4370 ∧ 4352 ≤ hi) ∨ (lo ≤ 4469 ∧ 4449 ≤ hi) ∨ (lo ≤ 4546 ∧ 4520 ≤ hi)) → hangs lo hi = false) := fun h => by unfold hangs; exact decide_eq_false h
  generalize hangs lo hi = res at *
  obtain ⟨-, -, -, -, -, -, -, h0, h1, h2, h3, h4, h5, h6, h7⟩ := hg
  have i0 : ∀ w, (Instr.index 198 (.agg #[.int .i32 44032, .int .i32 55203, .int .i32 4352, .int .i32 4370, .int .i32 4449, .int .i32 4469, .int .i32 4520, .int .i32 4546]) (.int .i64 0)).run Tryz.prog w = .ok (.agg #[.int .i32 44032, .int .i32 55203]) w := fun _ => by kernel_rfl
  have i1 : ∀ w, (Instr.index 198 (.agg #[.int .i32 44032, .int .i32 55203, .int .i32 4352, .int .i32 4370, .int .i32 4449, .int .i32 4469, .int .i32 4520, .int .i32 4546]) (.int .i64 1)).run Tryz.prog w = .ok (.agg #[.int .i32 4352, .int .i32 4370]) w := fun _ => by kernel_rfl
  have i2 : ∀ w, (Instr.index 198 (.agg #[.int .i32 44032, .int .i32 55203, .int .i32 4352, .int .i32 4370, .int .i32 4449, .int .i32 4469, .int .i32 4520, .int .i32 4546]) (.int .i64 2)).run Tryz.prog w = .ok (.agg #[.int .i32 4449, .int .i32 4469]) w := fun _ => by kernel_rfl
  have i3 : ∀ w, (Instr.index 198 (.agg #[.int .i32 44032, .int .i32 55203, .int .i32 4352, .int .i32 4370, .int .i32 4449, .int .i32 4469, .int .i32 4520, .int .i32 4546]) (.int .i64 3)).run Tryz.prog w = .ok (.agg #[.int .i32 4520, .int .i32 4546]) w := fun _ => by kernel_rfl
  go_enter Tryz.func108, Tryz.ntmps108
  go_wp2
  clear h0 h1 h2 h3 h4 h5 h6 h7
  go_loopw [8] (fun x wr => ∃ k : Nat, x = .int .i64 k ∧ k ≤ 4 ∧ Hid ((0 < k → ¬ (lo ≤ 55203 ∧ 44032 ≤ hi)) ∧ (1 < k → ¬ (lo ≤ 4370 ∧ 4352 ≤ hi)) ∧ (2 < k → ¬ (lo ≤ 4469 ∧ 4449 ≤ hi)) ∧ (3 < k → ¬ (lo ≤ 4546 ∧ 4520 ≤ hi))) ∧ Below w.heap.size w wr) (fun y _ => 4 - (intOf y).toNat)
  case atStart => exact ⟨0, rfl, by omega, ⟨by omega, by omega, by omega, by omega⟩, Below.refl _ _⟩
  case round =>
    obtain ⟨k, rfl, hk, hm, hb⟩ := hrel
    rcases (by omega : k = 0 ∨ k = 1 ∨ k = 2 ∨ k = 3 ∨ k = 4) with rfl | rfl | rfl | rfl | rfl
    · rcases (by omega : 55203 < lo ∨ (lo ≤ 55203 ∧ hi < 44032) ∨ (lo ≤ 55203 ∧ 44032 ≤ hi)) with g | ⟨g, g'⟩ | ⟨g, g'⟩
      · go_wp2
        go_roundw
        case rel => exact ⟨1, rfl, by omega, ⟨by omega, by omega, by omega, by omega⟩, (hb.alloc hb.size _)⟩
        case measure => simp [intOf]
      · go_wp2
        go_roundw
        case rel => exact ⟨1, rfl, by omega, ⟨by omega, by omega, by omega, by omega⟩, (hb.alloc hb.size _)⟩
        case measure => simp [intOf]
      · go_wp2
        go_ret
        exact ⟨ret_bool (HT.out (.inl ⟨g, g'⟩)).symm, (hb.alloc hb.size _)⟩
    · rcases (by omega : 4370 < lo ∨ (lo ≤ 4370 ∧ hi < 4352) ∨ (lo ≤ 4370 ∧ 4352 ≤ hi)) with g | ⟨g, g'⟩ | ⟨g, g'⟩
      · go_wp2
        go_roundw
        case rel => exact ⟨2, rfl, by omega, ⟨fun _ => hm.out.1 (by omega), by omega, by omega, by omega⟩, (hb.alloc hb.size _)⟩
        case measure => simp [intOf]
      · go_wp2
        go_roundw
        case rel => exact ⟨2, rfl, by omega, ⟨fun _ => hm.out.1 (by omega), by omega, by omega, by omega⟩, (hb.alloc hb.size _)⟩
        case measure => simp [intOf]
      · go_wp2
        go_ret
        exact ⟨ret_bool (HT.out (.inr (.inl ⟨g, g'⟩))).symm, (hb.alloc hb.size _)⟩
    · rcases (by omega : 4469 < lo ∨ (lo ≤ 4469 ∧ hi < 4449) ∨ (lo ≤ 4469 ∧ 4449 ≤ hi)) with g | ⟨g, g'⟩ | ⟨g, g'⟩
      · go_wp2
        go_roundw
        case rel => exact ⟨3, rfl, by omega, ⟨fun _ => hm.out.1 (by omega), fun _ => hm.out.2.1 (by omega), by omega, by omega⟩, (hb.alloc hb.size _)⟩
        case measure => simp [intOf]
      · go_wp2
        go_roundw
        case rel => exact ⟨3, rfl, by omega, ⟨fun _ => hm.out.1 (by omega), fun _ => hm.out.2.1 (by omega), by omega, by omega⟩, (hb.alloc hb.size _)⟩
        case measure => simp [intOf]
      · go_wp2
        go_ret
        exact ⟨ret_bool (HT.out (.inr (.inr (.inl ⟨g, g'⟩)))).symm, (hb.alloc hb.size _)⟩
    · rcases (by omega : 4546 < lo ∨ (lo ≤ 4546 ∧ hi < 4520) ∨ (lo ≤ 4546 ∧ 4520 ≤ hi)) with g | ⟨g, g'⟩ | ⟨g, g'⟩
      · go_wp2
        go_roundw
        case rel => exact ⟨4, rfl, by omega, ⟨fun _ => hm.out.1 (by omega), fun _ => hm.out.2.1 (by omega), fun _ => hm.out.2.2.1 (by omega), by omega⟩, (hb.alloc hb.size _)⟩
        case measure => simp [intOf]
      · go_wp2
        go_roundw
        case rel => exact ⟨4, rfl, by omega, ⟨fun _ => hm.out.1 (by omega), fun _ => hm.out.2.1 (by omega), fun _ => hm.out.2.2.1 (by omega), by omega⟩, (hb.alloc hb.size _)⟩
        case measure => simp [intOf]
      · go_wp2
        go_ret
        exact ⟨ret_bool (HT.out (.inr (.inr (.inr ⟨g, g'⟩)))).symm, (hb.alloc hb.size _)⟩
    · have hf : Hid (res = false) := HF.out (by
        obtain ⟨a, b, c, d⟩ := hm.out
        rintro (h | h | h | h)
        · exact a (by omega) h
        · exact b (by omega) h
        · exact c (by omega) h
        · exact d (by omega) h)
      go_wp2
      go_ret
      exact ⟨ret_bool hf.out.symm, hb⟩
set_option maxHeartbeats 1000000 in
theorem mayStand_any (r : Int) (w : World) (p : Nat → Addr) (hg : Gl p w) :
    Calls Tryz.prog 141 #[.int .i32 r] w fun e w' => e = .returned (.bool (mayR r)) ∧ Below w.heap.size w w' := by
  have HH := Hid.mk' (hasHangul_any r r w p hg)
  rw [hangs_self] at HH
  have HR := Hid.mk' (right_rune r w)
  unfold mayR
  generalize hang r = h at *
  cases hr : rightR r
  · rw [hr] at HR
    clear HH hg
    go_enter Tryz.func141, Tryz.ntmps141
    go_wp2_with fail
    refine HR.out.mono ?_
    rintro e w1 ⟨rfl, rfl⟩
    go_wp2
    go_ret
    exact ⟨rfl, Below.refl _ _⟩
  · rw [hr] at HR
    clear hg
    go_enter Tryz.func141, Tryz.ntmps141
    go_wp2_with fail
    refine HR.out.mono ?_
    rintro e w1 ⟨rfl, rfl⟩
    go_wp2_with fail
    refine HH.out.mono ?_
    rintro e w1 ⟨rfl, hb⟩
    go_wp2
    go_ret
    exact ⟨ret_bool (by simp), hb⟩
/-- a slice value that holds rows -/
def Rows4 (w : World) (v : Value) (l : List Rw) : Prop :=
  ∃ a cap, v = .slice a l.length cap ∧ ∀ j, j < l.length → ∃ b off tv, a = some ⟨b, off, none⟩ ∧ w.cell? ⟨b, off + j * 2, none⟩ = some (.int .i32 (rw_ l j).fr) ∧ w.cell? ⟨b, off + j * 2 + 1, none⟩ = some tv ∧ Runes w tv (rw_ l j).to
theorem Rows4.below {w w' : World} {v : Value} {l : List Rw} (h : Rows4 w v l) (hb : Below w.heap.size w w') : Rows4 w' v l := by
  obtain ⟨a, cap, rfl, h⟩ := h
  refine ⟨a, cap, rfl, fun j hj => ?_⟩
  obtain ⟨b, off, tv, rfl, h0, h1, h2⟩ := h j hj
  exact ⟨b, off, tv, rfl, (hb.cell (p := ⟨b, off + j * 2, none⟩) (lt_of_cell h0)).trans h0, (hb.cell (p := ⟨b, off + j * 2 + 1, none⟩) (lt_of_cell h1)).trans h1, h2.below hb⟩
set_option maxHeartbeats 400000 in
theorem fromOf_any (fr : Int) (tv : Value) (w : World) :
    Calls Tryz.prog 144 #[.agg #[.int .i32 fr, tv]] w fun e w' => e = .returned (.int .i32 fr) ∧ w' = w.alloc (.cells #[.int .i32 fr, tv] 118) := by
  go_enter Tryz.func144, Tryz.ntmps144
  go_wp2
  go_ret
  exact ⟨rfl, rfl⟩
set_option maxHeartbeats 400000 in
theorem itself_any (r : Int) (w : World) :
    Calls Tryz.prog 107 #[.int .i32 r] w fun e w' => e = .returned (.int .i32 r) ∧ w = w' := by
  go_enter Tryz.func107, Tryz.ntmps107
  go_wp2
  go_ret
  exact ⟨rfl, rfl⟩
end Go.Proofs.YtlnehhfljjeifaaGreatDoor

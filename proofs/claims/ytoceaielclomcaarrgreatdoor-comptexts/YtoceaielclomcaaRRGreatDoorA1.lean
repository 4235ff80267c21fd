/-
  What is proved here: what utf.Right, hasHangul, mayStand, formed, fromOf and itself answer; rows in memory.
-/
import Derived.Test.YtoceaielclomcaaRRGreatDoorA0
import Derived.Test.YtoceaielclomcaaRRGreatDoorBase
namespace Go.Proofs.YtoceaielclomcaaRRGreatDoor
open Go.RowKit

/-- a rune's width -/
def wid (r : Int) : Int := if r < 0 ∨ 1114111 < r then 0 else if r < 128 then 1 else if r < 2048 then 2 else if 55296 ≤ r ∧ r ≤ 57343 then 0 else if r < 65536 then 3 else 4
theorem wid_right (r : Int) : decide (0 < wid r) = rightR r := by
  unfold wid rightR; rw [decide_eq_decide]; (repeat' split) <;> omega
set_option maxHeartbeats 400000 in
theorem widA_any (r : Int) (w : World) :
    Calls Tryz.prog 98 #[.int .i32 r] w fun e w' => e = .returned (.int .i64 (wid r)) ∧ w = w' := by
  go_enter Tryz.func98, Tryz.ntmps98
  go_wp2
  all_goals go_ret
  all_goals refine ⟨ret_int ?_, rfl⟩
  all_goals (unfold wid; (repeat' split) <;> omega)
set_option maxHeartbeats 400000 in
theorem right_rune (r : Int) (w : World) :
    Calls Tryz.prog 65 #[.int .i32 r] w fun e w' => e = .returned (.bool (rightR r)) ∧ w = w' := by
  rw [← wid_right]
  have HW := Hid.mk' (widA_any r w)
  generalize wid r = x at *
  go_enter Tryz.func65, Tryz.ntmps65
  go_wp2_with fail
  refine HW.out.mono ?_
  rintro e w' ⟨rfl, rfl⟩
  go_wp2
  go_ret
  exact ⟨rfl, rfl⟩
/-- a slice value that holds rows -/
def Rows4 (w : World) (v : Value) (l : List Rw) : Prop :=
  ∃ a cap, v = .slice a l.length cap ∧ ∀ j, j < l.length → ∃ b off tv, a = some ⟨b, off, none⟩ ∧ w.cell? ⟨b, off + j * 2, none⟩ = some (.int .i32 (rw_ l j).fr) ∧ w.cell? ⟨b, off + j * 2 + 1, none⟩ = some tv ∧ Runes w tv (rw_ l j).to
theorem Rows4.below {w w' : World} {v : Value} {l : List Rw} (h : Rows4 w v l) (hb : Below w.heap.size w w') : Rows4 w' v l := by
  obtain ⟨a, cap, rfl, h⟩ := h
  refine ⟨a, cap, rfl, fun j hj => ?_⟩
  obtain ⟨b, off, tv, rfl, h0, h1, h2⟩ := h j hj
  exact ⟨b, off, tv, rfl, (hb.cell (p := ⟨b, off + j * 2, none⟩) (lt_of_cell h0)).trans h0, (hb.cell (p := ⟨b, off + j * 2 + 1, none⟩) (lt_of_cell h1)).trans h1, h2.below hb⟩
set_option maxHeartbeats 400000 in
theorem fromOf_any (fr : Int) (tv : Value) (w : World) :
    Calls Tryz.prog 129 #[.agg #[.int .i32 fr, tv]] w fun e w' => e = .returned (.int .i32 fr) ∧ w' = w.alloc (.cells #[.int .i32 fr, tv] 74) := by
  go_enter Tryz.func129, Tryz.ntmps129
  go_wp2
  go_ret
  exact ⟨rfl, rfl⟩
set_option maxHeartbeats 400000 in
theorem itself_any (r : Int) (w : World) :
    Calls Tryz.prog 162 #[.int .i32 r] w fun e w' => e = .returned (.int .i32 r) ∧ w = w' := by
  go_enter Tryz.func162, Tryz.ntmps162
  go_wp2
  go_ret
  exact ⟨rfl, rfl⟩
end Go.Proofs.YtoceaielclomcaaRRGreatDoor

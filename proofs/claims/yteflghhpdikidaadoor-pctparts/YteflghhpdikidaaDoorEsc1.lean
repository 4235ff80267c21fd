/-
  What is proved here: what pct.Plain, pct.Escape and pct.Canon answer.
-/
import Derived.Test.YteflghhpdikidaaDoorSetOf
import Derived.Test.YteflghhpdikidaaDoorPct5
import Derived.Test.YteflghhpdikidaaDoorEsc0
namespace Go.Proofs.YteflghhpdikidaaDoor
open Go.RowKit

theorem run_index_bools (f : Nat → Bool) (b : Nat) (hb : b < 256) (w : World) : (Instr.index 66 (.agg (boolCells f)) (.int .u8 b)).run Tryd.prog w = .ok (.bool (f b)) w := by
  simp [Instr.index, run_underlying Tryd.underlying66, asIntOf, hb, go_sem, boolCells]

def plainsB : ByteArray := ⟨Pct.plains.toArray⟩
theorem texts_new (w : World) (ss : List ByteArray) (t : TypeId) : Texts (w.alloc (.cells (ss.map Value.string).toArray t)) (.slice (some ⟨w.heap.size, 0, none⟩) ss.length ss.length) ss := by
  refine ⟨_, _, rfl, fun j hj => ⟨w.heap.size, 0, rfl, ?_⟩⟩
  rw [Nat.zero_add, World.cell?_alloc_new]
  simp [hj]
theorem hasB_one (s : ByteArray) (i : Nat) : hasB [s] i = s.data.toList.any fun c => c.toNat == i := by unfold hasB; rw [List.any_cons, List.any_nil, Bool.or_false]
theorem hasB_two (s t : ByteArray) (i : Nat) : hasB [s, t] i = ((s.data.toList.any fun c => c.toNat == i) || t.data.toList.any fun c => c.toNat == i) := by unfold hasB; rw [List.any_cons, List.any_cons, List.any_nil, Bool.or_false]

set_option maxRecDepth 100000 in
set_option maxHeartbeats 2000000 in
theorem plain_any (b : Nat) (w : World) (hb : b < 256) :
    Calls Tryd.prog 17 #[.int .u8 b] w fun e w' => e = .returned (.bool (Pct.plain b)) ∧ Below w.heap.size w w' := by
  have hix := run_index_bools (hasB [plainsB]) b hb
  rw [hasB_one, show plainsB.data.toList = Pct.plains from rfl, Pct.plains_any b hb] at hix
  have HS := Hid.mk' (setOf_any _ [plainsB] _ (texts_new w [plainsB] 9) (by decide) (by intro s hs; simp at hs; subst hs; decide))
  go_enter Tryd.func17, Tryd.ntmps17
  go_wp2_with fail
  refine HS.out.mono ?_
  rintro e w1 ⟨rfl, hb1⟩
  go_wp2
  go_ret
  exact ⟨rfl, ((Below.refl _ _).alloc (Nat.le_refl _) _).trans (hb1.mono (by simp))⟩

end Go.Proofs.YteflghhpdikidaaDoor

/-
  What is proved here: a variable that a closure has captured and grows by appends; what the two closures of pct.Unescape and pct.Places do.
-/
import Derived.Test.YteflghhpdikidaaDoorBase
import Derived.OneCell
namespace Go.Proofs.YteflghhpdikidaaDoor
open Go.RowKit

theorem Tryd.infoInt : (Tryd.prog.info? 3).map (fun i => (i.zero, i.size, i.bytes)) = some (some (.int .i64 0), 1, 8) := by kernel_rfl

/-- A CAPTURED VARIABLE (the block B) that holds a slice of its own, with these numbers. -/
def Cap (T E : TypeId) (K : IntKind) (B : Nat) (l : List Int) (w : World) : Prop :=
  ∃ v, w.heap[B]? = some (.cells #[v] T (0, 0)) ∧ w.ownsRow (B + 1) E 1 v l.length (l.map (Value.int K))

/-- 'xs = append(xs, x)' on a captured variable: 'tmp' the block that the new element is laid in, w1 the world behind the append. -/
theorem cap_push {T E : TypeId} {K : IntKind} {B : Nat} {l : List Int} {wr w1 : World} {v v' : Value} (x : Int) (tmp : Obj)
    (hv : wr.heap[B]? = some (.cells #[v] T (0, 0))) (hown : wr.ownsRow (B + 1) E 1 v l.length (l.map (Value.int K)))
    (hown' : w1.ownsRow (B + 1) E 1 v' (l.length + 1) (l.map (Value.int K) ++ [.int K x])) (hgrow : (wr.alloc tmp).grownBy w1 v.ownBlock) :
    (∃ g' cap', v' = .slice (some ⟨g', 0, none⟩) (l.length + 1) cap') ∧ w1.cell? ⟨B, 0, none⟩ = some v ∧ w1.frozen? ⟨B, 0, none⟩ = false ∧ Cap T E K B (l ++ [x]) (w1.setCell ⟨B, 0, none⟩ v') ∧ Below B wr (w1.setCell ⟨B, 0, none⟩ v') := by
  have hB := lt_of_block hv
  have hlt : ∀ j, v.ownBlock = some j → B + 1 ≤ j := fun j hj => (hown.lt j hj).1
  have hv1 : w1.heap[B]? = some (.cells #[v] T (0, 0)) := by
    rw [hgrow.block B (by simp; omega) (fun e => by have := hlt B e.symm; omega), Below.heap_alloc _ _ _ hB]; exact hv
  have hne' : v'.ownBlock ≠ some B := fun e => by have := (hown'.lt B e).1; omega
  refine ⟨?_, cell_of_one hv1, free_of_one hv1, ⟨v', one_setCell hv1, ?_⟩, ?_⟩
  · rcases hown'.2 with ⟨_, h0⟩ | ⟨g, cap, cur, rfl, _, _⟩
    · omega
    · exact ⟨g, cap, rfl⟩
  · have := ownsRow_setCell_other hown' (a := ⟨B, 0, none⟩) hne' v'
    simpa using this
  · exact Below.setCell (p := ⟨B, 0, none⟩) (((Below.refl B wr).alloc (by omega) _).grown hgrow (by simp; omega) (fun j hj => by have := hlt j hj; omega)) (Nat.le_refl B) _

set_option maxRecDepth 100000 in
set_option maxHeartbeats 1000000 in
theorem clo_bytes (B : Nat) (l : List Int) (k c : Int) (w : World) (hl : l.length ≤ 2147483648) (h : Cap 52 5 .u8 B l w) :
    Calls Tryd.prog 26 #[.int .i64 k, .int .u8 c, .pointer (some ⟨B, 0, none⟩)] w fun e w' => e = .returned (.tuple #[]) ∧ Cap 52 5 .u8 B (l ++ [c]) w' ∧ Below B w w' := by
  obtain ⟨i0, hi, hz0, hz1, hz2⟩ := info_parts Tryd.infoByte
  obtain ⟨v, hv, hown⟩ := h
  have hB := lt_of_block hv
  have cW := cell_of_one hv
  have fW := free_of_one hv
  have HV := Hid.mk' hv
  clear hv
  go_enter Tryd.func26, Tryd.ntmps26
  go_wp2_with (at_builtin; refine wpList_append_own _ rfl _ _ 52 rfl (B + 1) 5 i0 (.int .u8 0) 1 1 Tryd.underlying52 hi hz0 hz1 hz2 rfl (by decide) _ _ _ rfl (hown.alloc _) ⟨w.heap.size, 0, none⟩ 1 1 [.int .u8 c] rfl rfl (cell_one_new _ _ _) (by intro u hu; simp at hu; subst hu; rfl) (by unfold maxLen; omega) (by omega) (by simp; omega) ?_; intro v' w2 hown' hgrow _; obtain ⟨⟨g', cap', rfl⟩, cW2, fW2, hC, hbel⟩ := cap_push c _ HV.out hown hown' hgrow; clear hown' hgrow hown)
  go_end0
  exact ⟨rfl, hC, hbel⟩

set_option maxRecDepth 100000 in
set_option maxHeartbeats 1000000 in
theorem clo_places (B : Nat) (l : List Int) (k c : Int) (w : World) (hl : l.length ≤ 2147483648) (h : Cap 27 3 .i64 B l w) :
    Calls Tryd.prog 28 #[.int .i64 k, .int .u8 c, .pointer (some ⟨B, 0, none⟩)] w fun e w' => e = .returned (.tuple #[]) ∧ Cap 27 3 .i64 B (l ++ [k]) w' ∧ Below B w w' := by
  obtain ⟨i0, hi, hz0, hz1, hz2⟩ := info_parts Tryd.infoInt
  obtain ⟨v, hv, hown⟩ := h
  have hB := lt_of_block hv
  have cW := cell_of_one hv
  have fW := free_of_one hv
  have HV := Hid.mk' hv
  clear hv
  go_enter Tryd.func28, Tryd.ntmps28
  go_wp2_with (at_builtin; refine wpList_append_own _ rfl _ _ 27 rfl (B + 1) 3 i0 (.int .i64 0) 1 8 Tryd.underlying27 hi hz0 hz1 hz2 rfl (by decide) _ _ _ rfl (hown.alloc _) ⟨w.heap.size, 0, none⟩ 1 1 [.int .i64 k] rfl rfl (cell_one_new _ _ _) (by intro u hu; simp at hu; subst hu; rfl) (by unfold maxLen; omega) (by omega) (by simp; omega) ?_; intro v' w2 hown' hgrow _; obtain ⟨⟨g', cap', rfl⟩, cW2, fW2, hC, hbel⟩ := cap_push k _ HV.out hown hown' hgrow; clear hown' hgrow hown)
  go_end0
  exact ⟨rfl, hC, hbel⟩
end Go.Proofs.YteflghhpdikidaaDoor

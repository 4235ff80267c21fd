/-
  What is proved here: rows of runes in the worlds that a sort passes through; what cmp.Less answers at runes.
-/
import Derived.Test.YtlnehhfljjeifaaDoorBase
import Derived.Shelf.SlSortCmp.Kit1
import Derived.Sort.AssemblyPlain
import Derived.Sort.WalkC4
import Derived.Sort.WalkB3
import Derived.Sort.WalkA6
namespace Go.Proofs.YtlnehhfljjeifaaDoor
open Go.RowKit Go.Sort

/-- the world in which the row at a place of a block holds these runes -/
def SA (w0 : World) (blk off : Nat) (d : Array Int) (W : World) : Prop := SW (Value.int .i32) w0 blk off d W
/-- what is known of the row at the start -/
def RA (w0 : World) (blk off : Nat) (d : Array Int) : Prop := Row1 (Value.int .i32) w0 blk off d
/-- the rune at a place -/
def gv (d : Array Int) (i : Nat) : Int := d[i]!
section
variable {w0 W : World} {blk off sz : Nat} {d d0 : Array Int}
theorem SA.cell (h : SA w0 blk off d W) (R : RA w0 blk off d0) (e0 : d0.size = sz) (e : d.size = sz) {i : Nat} (hi : i < sz) : W.cell? ⟨blk, off + i, none⟩ = some (.int .i32 (gv d i)) := SW.c1 h R (by omega) i (by omega)
theorem SA.frz (h : SA w0 blk off d W) (R : RA w0 blk off d0) (e0 : d0.size = sz) (e : d.size = sz) {i : Nat} (hi : i < sz) : W.frozen? ⟨blk, off + i, none⟩ = false := SW.f1 h R (by omega) i (by omega)
theorem SA.cl (h : SA w0 blk off d W) (R : RA w0 blk off d0) (e0 : d0.size = sz) (e : d.size = sz) {i : Nat} (hi : i < sz) (n : Nat) (os : Array Obj) : (grow (W.drewN n) os).cell? ⟨blk, off + i, none⟩ = some (.int .i32 (gv d i)) := SW.cl h R (by omega) i (by omega) n os
theorem SA.two (h : SA w0 blk off d W) (R : RA w0 blk off d0) (e0 : d0.size = sz) (e : d.size = sz) {i j : Nat} (hi : i < sz) (hj : j < sz) (v : Value) : ∃ u, (W.setCell ⟨blk, off + i, none⟩ v).cell? ⟨blk, off + j, none⟩ = some u := SW.c2 h R (by omega) i j (by omega) (by omega) v
theorem SA.swap (h : SA w0 blk off d W) (R : RA w0 blk off d0) (e : d.size = sz) {i j : Nat} (hi : i < sz) (hj : j < sz) : SA w0 blk off (swp d i j) ((W.setCell ⟨blk, off + i, none⟩ (.int .i32 (gv d j))).setCell ⟨blk, off + j, none⟩ (.int .i32 (gv d i))).drew := SW.swapped h R i j (by omega) (by omega)
theorem SA.grown (h : SA w0 blk off d W) (n : Nat) (os : Array Obj) : SA w0 blk off d (grow (W.drewN n) os) := SW.grown h n os
theorem swp_len (d : Array Int) (i j : Nat) : (swp d i j).size = d.size := size_swp _ _ _
theorem lt_gv (d : Array Int) (i j : Nat) : ltInt d[i]! d[j]! = decide (gv d i < gv d j) := rfl
/-- the row holds d, and d is as long as the row was -/
structure St (w0 : World) (blk off sz : Nat) (d : Array Int) (W : World) : Prop where
  len : d.size = sz
  sa : SA w0 blk off d W
/-- all that an exchange wants -/
theorem SA.exch (h : SA w0 blk off d W) (R : RA w0 blk off d0) (e0 : d0.size = sz) (e : d.size = sz) {i j : Nat} (hi : i < sz) (hj : j < sz) :
    ∃ (x y : Int) (u : Value), W.cell? ⟨blk, off + i, none⟩ = some (.int .i32 x) ∧ W.cell? ⟨blk, off + j, none⟩ = some (.int .i32 y) ∧ (W.setCell ⟨blk, off + i, none⟩ (.int .i32 y)).cell? ⟨blk, off + j, none⟩ = some u ∧ W.frozen? ⟨blk, off + i, none⟩ = false ∧ W.frozen? ⟨blk, off + j, none⟩ = false ∧
      Hid (St w0 blk off sz (swp d i j) ((W.setCell ⟨blk, off + i, none⟩ (.int .i32 y)).setCell ⟨blk, off + j, none⟩ (.int .i32 x)).drew) := by
  obtain ⟨u, hu⟩ := h.two R e0 e hi hj (.int .i32 (gv d j))
  exact ⟨gv d i, gv d j, u, h.cell R e0 e hi, h.cell R e0 e hj, hu, h.frz R e0 e hi, h.frz R e0 e hj, (swp_len d i j).trans e, h.swap R e hi hj⟩
/-- all that a comparison wants -/
theorem SA.comp (h : SA w0 blk off d W) (R : RA w0 blk off d0) (e0 : d0.size = sz) (e : d.size = sz) {i j : Nat} (hi : i < sz) (hj : j < sz) :
    ∃ x y : Int, (∀ n os, (grow (W.drewN n) os).cell? ⟨blk, off + i, none⟩ = some (.int .i32 x)) ∧ (∀ n os, (grow (W.drewN n) os).cell? ⟨blk, off + j, none⟩ = some (.int .i32 y)) ∧ Hid (ltInt d[i]! d[j]! = decide (x < y)) :=
  ⟨gv d i, gv d j, fun n os => h.cl R e0 e hi n os, fun n os => h.cl R e0 e hj n os, lt_gv d i j⟩
end
set_option maxHeartbeats 400000 in
theorem isNaN_rune (x : Int) (w : World) : Calls Tryd.prog 83 #[.int .i32 x] w fun e w' => e = .returned (.bool false) ∧ w = w' := by
  go_enter Tryd.func83, Tryd.ntmps83
  go_wp2
  go_ret
  exact ⟨ret_bool (by simp), rfl⟩
set_option maxHeartbeats 1000000 in
theorem less_rune (x y : Int) (w : World) : Calls Tryd.prog 70 #[.int .i32 x, .int .i32 y] w fun e w' => e = .returned (.bool (decide (x < y))) ∧ ∃ q os, w' = grow (w.drewN q) os := by
  go_enter Tryd.func70, Tryd.ntmps70
  go_wp2_with (go_at_call 83; refine (isNaN_rune _ _).mono ?_; rintro e w' ⟨rfl, rfl⟩)
  all_goals go_wp2
  all_goals go_ret
  all_goals exact ⟨ret_bool (by simp_all), 0, #[], by rw [grow_empty]; rfl⟩
end Go.Proofs.YtlnehhfljjeifaaDoor

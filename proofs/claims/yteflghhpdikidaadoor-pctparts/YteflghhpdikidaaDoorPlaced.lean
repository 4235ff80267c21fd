/-
  What is proved here: what pct.placed answers, whatever function tells the place (with one captured variable).
-/
import Derived.Test.YteflghhpdikidaaDoorPct5
import Derived.Deep.RegionHeld3
namespace Go.Proofs.YteflghhpdikidaaDoor
open Go.RowKit

set_option maxHeartbeats 400000 in
theorem placed_nil (F B : Nat) (w : World) :
    Calls Tryd.prog 36 #[.nilIface, .func (.func F) #[] #[.pointer (some ⟨B, 0, none⟩)]] w fun e w' => e = .returned .nilIface ∧ Below w.heap.size w w' := by
  go_enter Tryd.func36, Tryd.ntmps36
  go_wp2_with (go_at_call 29; refine (as_nil _ _).mono ?_; rintro e w' ⟨rfl, rfl⟩)
  go_ret
  exact ⟨rfl, (Below.refl _ _).alloc (Nat.le_refl _) _⟩

set_option maxHeartbeats 1000000 in
theorem placed_fault (F B b : Nat) (at_ r : Int) (p : Addr) (w : World)
    (hF : ∀ args w, (callFunc F args).run Tryd.prog w = .ok (.enter F args) w)
    (hC : ∀ w1, Below w.heap.size w w1 → Calls Tryd.prog F #[.int .i64 at_, .pointer (some ⟨B, 0, none⟩)] w1 fun e w' => e = .returned (.int .i64 r) ∧ Below w1.heap.size w1 w')
    (hg : w.cell? ⟨1, 0, none⟩ = some (.iface 96 (.agg #[.pointer (some ⟨22, 24, none⟩)])))
    (h0 : w.cell? ⟨b, 0, none⟩ = some (.int .i64 at_)) (h1 : w.cell? ⟨b, 1, none⟩ = some (.iface 133 (.pointer (some p)))) :
    Calls Tryd.prog 36 #[.iface 57 (.pointer (some ⟨b, 0, none⟩)), .func (.func F) #[] #[.pointer (some ⟨B, 0, none⟩)]] w fun e w' => ∃ v, e = .returned v ∧ Flt w' v w.heap.size r p ∧ Below w.heap.size w w' := by
  have hb := lt_of_cell h0
  have hge := lt_of_cell hg
  have hgA : (w.alloc (.cells #[.pointer none] 57)).cell? ⟨1, 0, none⟩ = some (.iface 96 (.agg #[.pointer (some ⟨22, 24, none⟩)])) := by
    rw [World.cell?_alloc_lt _ _ ⟨1, 0, none⟩ hge]; exact hg
  have htA : (w.alloc (.cells #[.pointer none] 57)).cell? ⟨w.heap.size, 0, none⟩ = some (.pointer none) := by simp
  have hfA : (w.alloc (.cells #[.pointer none] 57)).frozen? ⟨w.heap.size, 0, none⟩ = false := by simp
  have HA := Hid.mk' (as_hit2 ⟨b, 0, none⟩ _ _ _ hgA htA hfA)
  have HB : Hid (∀ w', Below w.heap.size (w.alloc (.cells #[.pointer none] 57)) w' → Below w.heap.size w w') := fun w' h => ((Below.refl _ _).alloc (Nat.le_refl _) _).trans h
  have HC := Hid.mk' hC
  clear hgA htA hfA hC
  go_enter Tryd.func36, Tryd.ntmps36
  go_wp2_with (go_at_call 29; refine HA.out.mono ?_; rintro e w1 ⟨rfl, hc, hbel⟩; have HW := HB.out _ hbel; have k0 := (HW.cell (p := ⟨b, 0, none⟩) hb).trans h0; have k1 := (HW.cell (p := ⟨b, 1, none⟩) hb).trans h1; clear h0 h1 hg)
  have HWD := Hid.mk' (HC.out w1.drew HW.drew)
  go_region_held3 (fun w' => w'.cell? ⟨w.heap.size, 0, none⟩ = some (.pointer (some ⟨b, 0, none⟩)) ∧ w'.cell? ⟨b, 0, none⟩ = some (.int .i64 at_) ∧ w'.cell? ⟨b, 1, none⟩ = some (.iface 133 (.pointer (some p)))) (first | exact ⟨hc, k0, k1⟩ | exact ⟨qc, q0, q1⟩ | go_keep) ((go_at_fn F; refine HWD.out.mono ?_; rintro e w2 ⟨rfl, hb2⟩; have qc := (hb2.cell (p := ⟨w.heap.size, 0, none⟩) (lt_of_cell hc)).trans hc; have q0 := (hb2.cell (p := ⟨b, 0, none⟩) (lt_of_cell k0)).trans k0; have q1 := (hb2.cell (p := ⟨b, 1, none⟩) (lt_of_cell k1)).trans k1))
  go_wp2
  go_ret
  have hb3 := HW.drew.trans (hb2.mono HW.size)
  exact ⟨_, rfl, ⟨w2.heap.size, hb3.size, rfl, by simp, by simp⟩, hb3.alloc hb3.size _⟩
end Go.Proofs.YteflghhpdikidaaDoor

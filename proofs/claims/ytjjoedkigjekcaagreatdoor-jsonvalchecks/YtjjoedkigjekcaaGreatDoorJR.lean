/-
  What is proved here: the law JsonvalChecks answers true at any value.
-/
import Derived.Test.YtjjoedkigjekcaaGreatDoorJQ
namespace Go.Proofs.YtjjoedkigjekcaaGreatDoor
open Go.RowKit

theorem Says.below {w w' : World} {v : Value} {B : Nat} {p : Nat → Addr} {x : Nat × Nat} (h : Says w v B p x) (hb : Below w.heap.size w w') : Says w' v B p x := by
  rcases h with h | ⟨h0, b, h1, h2, h3, h4⟩
  · exact .inl h
  · exact .inr ⟨h0, b, h1, h2, (hb.cell (p := ⟨b, 0, none⟩) (lt_of_cell h3)).trans h3, (hb.cell (p := ⟨b, 1, none⟩) (lt_of_cell h4)).trans h4⟩
set_option maxRecDepth 20000 in
set_option maxHeartbeats 4000000 in
theorem checks12_any (w : World) (p : Nat → Addr) (hge : Gl p w ∧ Et w) (t : J) (hs : Small 140737488355328 t) (cs : List Value) (hv : VJ w t cs) :
    Calls Tryz.prog 3 #[.agg cs.toArray] w fun e w' => e = .returned (.bool true) ∧ Below w.heap.size w w' := by
  obtain ⟨hg, het⟩ := hge
  obtain ⟨c0, c1, c2, c3, rfl⟩ := four_cells hv
  obtain ⟨W0, hW0, hsz, hb0, e0, e1, e2, e3⟩ := val_box w c0 c1 c2 c3
  have hv0 := hv.below hb0
  have hg0 := hg.below hb0
  have het0 := het.below hb0
  have HAW := Hid.mk' (awake12_any W0 p hg0)
  have HE : Hid (∀ W, Below W0.heap.size W0 W → (W.cell? ⟨w.heap.size, 0, none⟩ = some c0 ∧ W.cell? ⟨w.heap.size, 1, none⟩ = some c1 ∧ W.cell? ⟨w.heap.size, 2, none⟩ = some c2 ∧ W.cell? ⟨w.heap.size, 3, none⟩ = some c3) ∧ Below w.heap.size w W) := fun W hb =>
    ⟨⟨(hb.cell (lt_of_cell e0)).trans e0, (hb.cell (lt_of_cell e1)).trans e1, (hb.cell (lt_of_cell e2)).trans e2, (hb.cell (lt_of_cell e3)).trans e3⟩, hb0.trans (hb.mono hb0.size)⟩
  have HT : Hid (∀ W W', Below W0.heap.size W0 W → Below W.heap.size W W' → Below W0.heap.size W0 W') := below_tr
  have HGR : Hid (∀ W, Below W0.heap.size W0 W → _) := fun W hb => great12_any t hs [c0, c1, c2, c3] W (hv0.below hb)
  have HRC : Hid (weight t ≤ 4000 → ∀ W, Below W0.heap.size W0 W → _) := fun hw W hb => refCheck12_any t hw [c0, c1, c2, c3] W (hv0.below hb)
  have HCK : Hid (weight t ≤ 4000 → ∀ W, Below W0.heap.size W0 W → _) := fun hw W hb => check12_any t hw [c0, c1, c2, c3] W p (hg0.below hb) (hv0.below hb)
  have HSZ : Hid (weight t ≤ 4000 → ∀ W, Below W0.heap.size W0 W → _) := fun hw W hb => size12_any t hw [c0, c1, c2, c3] W (hv0.below hb)
  have HRS : Hid (weight t ≤ 4000 → ∀ W, Below W0.heap.size W0 W → _) := fun hw W hb => size_any t hw [c0, c1, c2, c3] W (hv0.below hb)
  have HIS : Hid (∀ W v B, Below W0.heap.size W0 W → Says W v B p (checkM gd t) → _) := fun W v B hb h => lawIs_says v B (checkM gd t) W p (hg0.below hb) (het0.below hb) (check_codes t) h
  have hstart : Below W0.heap.size W0 W0 := Below.refl _ _
  generalize checkM gd t = x at *
  generalize sizeM t = sz at *
  generalize weight t = wt at *
  obtain ⟨xa, xc⟩ := x
  simp only [] at HRC HIS
  clear hv hv0 hg hg0 het het0 e0 e1 e2 e3 hs
  go_enter Tryz.func3, Tryz.ntmps3
  go_wp2_with fail
  refine HAW.out.mono ?_
  rintro e w1 ⟨rfl, hb1⟩
  have hz1 := HT.out _ _ hstart hb1
  obtain ⟨⟨f0, f1, f2, f3⟩, hfin⟩ := HE.out _ hz1
  have HGx := Hid.mk' (HGR.out _ hz1)
  clear HAW HGR hb1 hstart
  go_wp2_with fail
  refine HGx.out.mono ?_
  rintro e w2 ⟨rfl, hb2⟩
  have hz2 := HT.out _ _ hz1 hb2
  clear HGx f0 f1 f2 f3 hfin hb2
  obtain ⟨⟨f0, f1, f2, f3⟩, hfin⟩ := HE.out _ hz2
  by_cases hw : 2000 < wt
  · have hd : decide (2000 < wt) = true := decide_eq_true hw
    rw [hd]
    clear HRC HCK HSZ HRS HIS
    go_wp2
    go_ret
    exact ⟨rfl, hfin⟩
  · have hd : decide (2000 < wt) = false := decide_eq_false hw
    rw [hd]
    have HRCx := Hid.mk' (HRC.out (by omega) _ hz2)
    clear HRC
    go_wp2_with fail
    refine HRCx.out.mono ?_
    rintro e w3 ⟨rfl, hb3⟩
    have hz3 := HT.out _ _ hz2 hb3
    clear HRCx f0 f1 f2 f3 hfin hb3
    have HCKx : Hid (∀ W, Below W0.heap.size W0 W → _) := fun W hb => HCK.out (by omega) W hb
    have HSZx : Hid (∀ W, Below W0.heap.size W0 W → _) := fun W hb => HSZ.out (by omega) W hb
    have HRSx : Hid (∀ W, Below W0.heap.size W0 W → _) := fun W hb => HRS.out (by omega) W hb
    have HEx : Hid (∀ W, Below W0.heap.size W0 W → (W.cell? ⟨w.heap.size, 0, none⟩ = some c0 ∧ W.cell? ⟨w.heap.size, 1, none⟩ = some c1 ∧ W.cell? ⟨w.heap.size, 2, none⟩ = some c2 ∧ W.cell? ⟨w.heap.size, 3, none⟩ = some c3)) := fun W hb => (HE.out W hb).1
    obtain ⟨f0, f1, f2, f3⟩ := HEx.out _ hz3
    have hz3d := hz3.drew
    clear HCK HSZ HRS
    go_wp2
    go_region_held3 (fun W' => W'.cell? ⟨w.heap.size, 0, none⟩ = some c0 ∧ W'.cell? ⟨w.heap.size, 1, none⟩ = some c1 ∧ W'.cell? ⟨w.heap.size, 2, none⟩ = some c2 ∧ W'.cell? ⟨w.heap.size, 3, none⟩ = some c3) (exact HEx.out _ (by assumption)) (first
      | (go_at_call 12; refine (HCKx.out _ (by assumption)).mono ?_; rintro e wC ⟨v, rfl, hsay, hbC⟩; have hzC := HT.out _ _ (by assumption) hbC)
      | (go_at_call 11; refine (HIS.out _ _ _ (by assumption) hsay).mono ?_; rintro e wI ⟨rfl, hbI⟩; have hzI := HT.out _ _ (by assumption) hbI)
      | (go_at_call 13; refine (HSZx.out _ (by assumption)).mono ?_; rintro e wS ⟨rfl, hbS⟩; have hzS := HT.out _ _ (by assumption) hbS)
      | (go_at_call 14; refine (HRSx.out _ (by assumption)).mono ?_; rintro e wR ⟨rfl, hbR⟩; have hzR := HT.out _ _ (by assumption) hbR))
    have hfin := (HE.out _ hzR).2
    clear HCKx HSZx HRSx HEx HIS f0 f1 f2 f3 hz3d
    go_wp2
    go_ret
    exact ⟨ret_bool (by first | rfl | simp), hfin⟩
end Go.Proofs.YtjjoedkigjekcaaGreatDoor

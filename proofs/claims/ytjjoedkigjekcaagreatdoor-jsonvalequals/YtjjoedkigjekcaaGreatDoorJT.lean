/-
  What is proved here: the law JsonvalOnce answers true at any two values.
-/
import Derived.Test.YtjjoedkigjekcaaGreatDoorJR
import Derived.Test.YtjjoedkigjekcaaGreatDoorJC
namespace Go.Proofs.YtjjoedkigjekcaaGreatDoor
open Go.RowKit

/-- what a check answers: nil, or a Fault -/
theorem says_cases {w : World} {v : Value} {B : Nat} {p : Nat → Addr} {x : Nat × Nat} (h : Says w v B p x) : (x.2 = 0 ∧ v = .nilIface) ∨ (x.2 ≠ 0 ∧ ∃ q, v = .iface 53 (.pointer (some q))) := by
  rcases h with ⟨rfl, rfl⟩ | ⟨h0, b, -, rfl, -⟩
  · exact .inl ⟨rfl, rfl⟩
  · exact .inr ⟨h0, _, rfl⟩
set_option maxRecDepth 20000 in
set_option maxHeartbeats 4000000 in
theorem once12_any (w : World) (p : Nat → Addr) (hg : Gl p w) (t : J) (hs : Small 140737488355328 t) (cs : List Value) (hv : VJ w t cs) (t' : J) (hs' : Small 140737488355328 t') (cs' : List Value) (hv' : VJ w t' cs') :
    Calls Tryz.prog 7 #[.agg cs.toArray, .agg cs'.toArray] w fun e w' => e = .returned (.bool true) ∧ Below w.heap.size w w' := by
  obtain ⟨c0, c1, c2, c3, rfl⟩ := four_cells hv
  obtain ⟨d0, d1, d2, d3, rfl⟩ := four_cells hv'
  obtain ⟨W0, hW0, hsz, hb0, ⟨e0, e1, e2, e3⟩, q0, q1, q2, q3⟩ := two_box w c0 c1 c2 c3 d0 d1 d2 d3
  have hv0 := hv.below hb0
  have hv0' := hv'.below hb0
  have hg0 := hg.below hb0
  have HAW := Hid.mk' (awake12_any W0 p hg0)
  have HE : Hid (∀ W, Below W0.heap.size W0 W → ((W.cell? ⟨w.heap.size, 0, none⟩ = some c0 ∧ W.cell? ⟨w.heap.size, 1, none⟩ = some c1 ∧ W.cell? ⟨w.heap.size, 2, none⟩ = some c2 ∧ W.cell? ⟨w.heap.size, 3, none⟩ = some c3) ∧ W.cell? ⟨w.heap.size + 1, 0, none⟩ = some d0 ∧ W.cell? ⟨w.heap.size + 1, 1, none⟩ = some d1 ∧ W.cell? ⟨w.heap.size + 1, 2, none⟩ = some d2 ∧ W.cell? ⟨w.heap.size + 1, 3, none⟩ = some d3) ∧ Below w.heap.size w W) := fun W hb =>
    ⟨⟨⟨(hb.cell (lt_of_cell e0)).trans e0, (hb.cell (lt_of_cell e1)).trans e1, (hb.cell (lt_of_cell e2)).trans e2, (hb.cell (lt_of_cell e3)).trans e3⟩, (hb.cell (lt_of_cell q0)).trans q0, (hb.cell (lt_of_cell q1)).trans q1, (hb.cell (lt_of_cell q2)).trans q2, (hb.cell (lt_of_cell q3)).trans q3⟩, hb0.trans (hb.mono hb0.size)⟩
  have HT : Hid (∀ W W', Below W0.heap.size W0 W → Below W.heap.size W W' → Below W0.heap.size W0 W') := below_tr
  have HGA : Hid (∀ W, Below W0.heap.size W0 W → _) := fun W hb => great12_any t hs [c0, c1, c2, c3] W (hv0.below hb)
  have HGB : Hid (∀ W, Below W0.heap.size W0 W → _) := fun W hb => great12_any t' hs' [d0, d1, d2, d3] W (hv0'.below hb)
  have HCA : Hid (weight t ≤ 4000 → ∀ W, Below W0.heap.size W0 W → _) := fun hw W hb => check12_any t hw [c0, c1, c2, c3] W p (hg0.below hb) (hv0.below hb)
  have HCB : Hid (weight t' ≤ 4000 → ∀ W, Below W0.heap.size W0 W → _) := fun hw W hb => check12_any t' hw [d0, d1, d2, d3] W p (hg0.below hb) (hv0'.below hb)
  have HTX : Hid (weight t ≤ 4000 → weight t' ≤ 4000 → (checkM gd t).2 = 0 → (checkM gd t').2 = 0 → ∀ W (c : Array Value) (T : ByteArray), Below W0.heap.size W0 W → ((c = #[c0, c1, c2, c3] ∧ T = strL (textM t)) ∨ (c = #[d0, d1, d2, d3] ∧ T = strL (textM t'))) → Calls Tryz.prog 17 #[.agg c] W fun e w' => e = .returned (.string T) ∧ Below W.heap.size W w') := fun hw hw' h0 h0' W c T hb hc => by
    rcases hc with ⟨rfl, rfl⟩ | ⟨rfl, rfl⟩
    · have := text12_any t hw [c0, c1, c2, c3] W p (hg0.below hb) (hv0.below hb)
      rw [if_pos h0] at this
      exact this
    · have := text12_any t' hw' [d0, d1, d2, d3] W p (hg0.below hb) (hv0'.below hb)
      rw [if_pos h0'] at this
      exact this
  have HSM : Hid (weight t ≤ 4000 → ∀ W, Below W0.heap.size W0 W → _) := fun hw W hb => same_any t t' [c0, c1, c2, c3] [d0, d1, d2, d3] W (hv0.below hb) (hv0'.below hb) hw
  have HON : Hid ((checkM gd t).2 = 0 → (checkM gd t').2 = 0 → ∀ z : Bool, (z = true ↔ t = t') → (((strL (textM t)).toList == (strL (textM t')).toList) == z) = true) := fun h0 h0' z hz => by
    by_cases e : t = t'
    · rw [hz.2 e, e]; simp
    · have hzf : z = false := by
        cases z with
        | false => rfl
        | true => exact absurd (hz.1 rfl) e
      rw [hzf]
      rcases text_test (textM t) (textM t') with ⟨h, -⟩ | ⟨-, h⟩
      · exact absurd (text_once (check_good h0).fine (check_good h0').fine h) e
      · rw [h]; rfl
  have hstart : Below W0.heap.size W0 W0 := Below.refl _ _
  generalize hSE : (t = t') = SE at *
  clear hSE
  generalize checkM gd t = x at *
  generalize checkM gd t' = x' at *
  generalize weight t = wt at *
  generalize weight t' = wt' at *
  generalize textM t = tt at *
  generalize textM t' = tt' at *
  generalize strL tt = T at *
  generalize strL tt' = T' at *
  clear hv hv0 hv' hv0' hg hg0 e0 e1 e2 e3 q0 q1 q2 q3 hs hs'
  go_enter Tryz.func7, Tryz.ntmps7
  go_wp2_with fail
  refine HAW.out.mono ?_
  rintro e w1 ⟨rfl, hb1⟩
  have hz1 := HT.out _ _ hstart hb1
  obtain ⟨⟨⟨f0, f1, f2, f3⟩, k0, k1, k2, k3⟩, hfin⟩ := HE.out _ hz1
  have HGx := Hid.mk' (HGA.out _ hz1)
  clear HAW HGA hb1 hstart
  go_wp2_with fail
  refine HGx.out.mono ?_
  rintro e w2 ⟨rfl, hb2⟩
  have hz2 := HT.out _ _ hz1 hb2
  clear HGx f0 f1 f2 f3 k0 k1 k2 k3 hfin hb2 hz1
  obtain ⟨⟨⟨f0, f1, f2, f3⟩, k0, k1, k2, k3⟩, hfin⟩ := HE.out _ hz2
  by_cases hw : 2000 < wt
  · have hd : decide (2000 < wt) = true := decide_eq_true hw
    rw [hd]
    clear HGB HCA HCB HTX HSM HON
    go_wp2
    go_ret
    exact ⟨rfl, hfin⟩
  have hd : decide (2000 < wt) = false := decide_eq_false hw
  rw [hd]
  have HGx := Hid.mk' (HGB.out _ hz2)
  clear HGB
  go_wp2_with fail
  refine HGx.out.mono ?_
  rintro e w3 ⟨rfl, hb3⟩
  have hz3 := HT.out _ _ hz2 hb3
  clear HGx f0 f1 f2 f3 k0 k1 k2 k3 hfin hb3 hz2
  obtain ⟨⟨⟨f0, f1, f2, f3⟩, k0, k1, k2, k3⟩, hfin⟩ := HE.out _ hz3
  by_cases hw' : 2000 < wt'
  · have hd' : decide (2000 < wt') = true := decide_eq_true hw'
    rw [hd']
    clear HCA HCB HTX HSM HON
    go_wp2
    go_ret
    exact ⟨rfl, hfin⟩
  have hd' : decide (2000 < wt') = false := decide_eq_false hw'
  rw [hd']
  have HCx := Hid.mk' (HCA.out (by omega) _ hz3)
  clear HCA
  go_wp2_with fail
  refine HCx.out.mono ?_
  rintro e w4 ⟨v, rfl, hsay, hb4⟩
  have hz4 := HT.out _ _ hz3 hb4
  clear HCx f0 f1 f2 f3 k0 k1 k2 k3 hfin hb4 hz3
  obtain ⟨⟨⟨f0, f1, f2, f3⟩, k0, k1, k2, k3⟩, hfin⟩ := HE.out _ hz4
  rcases says_cases hsay with ⟨h0, rfl⟩ | ⟨h0, q, rfl⟩
  rotate_left
  · clear HCB HTX HSM HON hsay
    go_wp2
    go_ret
    exact ⟨rfl, hfin⟩
  have HCx := Hid.mk' (HCB.out (by omega) _ hz4)
  clear HCB hsay
  go_wp2_with fail
  refine HCx.out.mono ?_
  rintro e w5 ⟨v, rfl, hsay, hb5⟩
  have hz5 := HT.out _ _ hz4 hb5
  clear HCx f0 f1 f2 f3 k0 k1 k2 k3 hfin hb5 hz4
  rcases says_cases hsay with ⟨h0', rfl⟩ | ⟨h0', q, rfl⟩
  rotate_left
  · obtain ⟨-, hfin⟩ := HE.out _ hz5
    clear HTX HSM HON hsay
    go_wp2
    go_ret
    exact ⟨rfl, hfin⟩
  have HTXx : Hid (∀ W (c : Array Value) (Y : ByteArray), Below W0.heap.size W0 W → ((c = #[c0, c1, c2, c3] ∧ Y = T) ∨ (c = #[d0, d1, d2, d3] ∧ Y = T')) → _) := fun W c Y hb hc => HTX.out (by omega) (by omega) h0 h0' W c Y hb hc
  have HSMx : Hid (∀ W, Below W0.heap.size W0 W → _) := fun W hb => HSM.out (by omega) W hb
  have HONx := Hid.mk' (HON.out h0 h0')
  have HEx : Hid (∀ W, Below W0.heap.size W0 W → ((W.cell? ⟨w.heap.size, 0, none⟩ = some c0 ∧ W.cell? ⟨w.heap.size, 1, none⟩ = some c1 ∧ W.cell? ⟨w.heap.size, 2, none⟩ = some c2 ∧ W.cell? ⟨w.heap.size, 3, none⟩ = some c3) ∧ W.cell? ⟨w.heap.size + 1, 0, none⟩ = some d0 ∧ W.cell? ⟨w.heap.size + 1, 1, none⟩ = some d1 ∧ W.cell? ⟨w.heap.size + 1, 2, none⟩ = some d2 ∧ W.cell? ⟨w.heap.size + 1, 3, none⟩ = some d3)) := fun W hb => (HE.out W hb).1
  obtain ⟨⟨f0, f1, f2, f3⟩, k0, k1, k2, k3⟩ := HEx.out _ hz5
  have hz5d := hz5.drew
  clear HTX HSM HON hsay h0 h0'
  go_wp2
  go_region_held3 (fun W' => ((W'.cell? ⟨w.heap.size, 0, none⟩ = some c0 ∧ W'.cell? ⟨w.heap.size, 1, none⟩ = some c1 ∧ W'.cell? ⟨w.heap.size, 2, none⟩ = some c2 ∧ W'.cell? ⟨w.heap.size, 3, none⟩ = some c3) ∧ W'.cell? ⟨w.heap.size + 1, 0, none⟩ = some d0 ∧ W'.cell? ⟨w.heap.size + 1, 1, none⟩ = some d1 ∧ W'.cell? ⟨w.heap.size + 1, 2, none⟩ = some d2 ∧ W'.cell? ⟨w.heap.size + 1, 3, none⟩ = some d3)) (exact HEx.out _ (by assumption)) (first
    | (go_at_call 17; (first | refine (HTXx.out _ _ T (by assumption) (.inl ⟨rfl, rfl⟩)).mono ?_ | refine (HTXx.out _ _ T' (by assumption) (.inr ⟨rfl, rfl⟩)).mono ?_); rintro e wT ⟨rfl, hbT⟩; have hzT := HT.out _ _ (by assumption) hbT)
    | (go_at_call 25; refine (HSMx.out _ (by assumption)).mono ?_; rintro e wS ⟨⟨z, rfl, hzz⟩, hbS⟩; have hzS := HT.out _ _ (by assumption) hbS))
  have hfin := (HE.out _ hzS).2
  have HZ := Hid.mk' (HONx.out z hzz)
  clear HTXx HSMx HEx HONx hzz f0 f1 f2 f3 k0 k1 k2 k3 hz5d
  go_wp2
  go_ret
  exact ⟨ret_bool HZ.out, hfin⟩
end Go.Proofs.YtjjoedkigjekcaaGreatDoor

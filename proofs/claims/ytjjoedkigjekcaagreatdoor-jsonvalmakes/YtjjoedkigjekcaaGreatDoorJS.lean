/-
  What is proved here: the law JsonvalTexts answers true at any value and any text.
-/
import Derived.Test.YtjjoedkigjekcaaGreatDoorJR
namespace Go.Proofs.YtjjoedkigjekcaaGreatDoor
open Go.RowKit

set_option maxRecDepth 20000 in
set_option maxHeartbeats 4000000 in
theorem texts12_any (w : World) (p : Nat → Addr) (hg : Gl p w) (t : J) (hs : Small 140737488355328 t) (cs : List Value) (hv : VJ w t cs) (s : List UInt8) (hsl : s.length ≤ 140737488355328) :
    Calls Tryz.prog 4 #[.agg cs.toArray, .string (strL s)] w fun e w' => e = .returned (.bool true) ∧ Below w.heap.size w w' := by
  obtain ⟨c0, c1, c2, c3, rfl⟩ := four_cells hv
  obtain ⟨W0, hW0, hsz, hb0, e0, e1, e2, e3⟩ := val_box w c0 c1 c2 c3
  have hv0 := hv.below hb0
  have hg0 := hg.below hb0
  have HAW := Hid.mk' (awake12_any W0 p hg0)
  have HE : Hid (∀ W, Below W0.heap.size W0 W → (W.cell? ⟨w.heap.size, 0, none⟩ = some c0 ∧ W.cell? ⟨w.heap.size, 1, none⟩ = some c1 ∧ W.cell? ⟨w.heap.size, 2, none⟩ = some c2 ∧ W.cell? ⟨w.heap.size, 3, none⟩ = some c3) ∧ Below w.heap.size w W) := fun W hb =>
    ⟨⟨(hb.cell (lt_of_cell e0)).trans e0, (hb.cell (lt_of_cell e1)).trans e1, (hb.cell (lt_of_cell e2)).trans e2, (hb.cell (lt_of_cell e3)).trans e3⟩, hb0.trans (hb.mono hb0.size)⟩
  have HT : Hid (∀ W W', Below W0.heap.size W0 W → Below W.heap.size W W' → Below W0.heap.size W0 W') := below_tr
  have HGR : Hid (∀ W, Below W0.heap.size W0 W → _) := fun W hb => great12_any t hs [c0, c1, c2, c3] W (hv0.below hb)
  have HRI : Hid (weight t ≤ 4000 → ∀ W, Below W0.heap.size W0 W → _) := fun hw W hb => right12_any t hw [c0, c1, c2, c3] W (hv0.below hb)
  have HRT : Hid ((checkM gd t).2 = 0 → weight t ≤ 4000 → ∀ W, Below W0.heap.size W0 W → _) := fun h0 hw W hb => refText_any t (check_good h0).fine hw [c0, c1, c2, c3] W (hv0.below hb)
  have HTX : Hid (weight t ≤ 4000 → ∀ W, Below W0.heap.size W0 W → _) := fun hw W hb => text12_any t hw [c0, c1, c2, c3] W p (hg0.below hb) (hv0.below hb)
  have HQU : Hid (s.length ≤ 4000 → ∀ W, _) := fun h W => quote12_any s W h
  have HRQ : Hid (s.length ≤ 4000 → ∀ W, _) := fun h W => refQuote_any s W h
  have HWR : Hid (s.length ≤ 4000 → ∀ W, _) := fun _ W => written12_any s W
  have HRW : Hid (∀ W, _) := fun W => written_any s W hsl
  have hsz0 : (strL s).size = s.length := rfl
  have hstart : Below W0.heap.size W0 W0 := Below.refl _ _
  generalize (checkM gd t).2 = x at *
  generalize weight t = wt at *
  generalize textM t = tt at *
  generalize quoteM s = qq at *
  generalize writtenM s = wr at *
  generalize strL s = S at *
  clear hv hv0 hg hg0 e0 e1 e2 e3 hs
  go_enter Tryz.func4, Tryz.ntmps4
  go_wp2_with fail
  refine HAW.out.mono ?_
  rintro e w1 ⟨rfl, hb1⟩
  have hz1 := HT.out _ _ hstart hb1
  obtain ⟨⟨f0, f1, f2, f3⟩, hfin⟩ := HE.out _ hz1
  have HGx := Hid.mk' (HGR.out _ hz1)
  clear HAW HGR hb1 hstart
  go_wp2_with fail
  refine HGx.out.mono ?_
  rintro e w2 ⟨rfl, hb2⟩
  have hz2 := HT.out _ _ hz1 hb2
  clear HGx f0 f1 f2 f3 hfin hb2
  obtain ⟨⟨f0, f1, f2, f3⟩, hfin⟩ := HE.out _ hz2
  by_cases hw : 2000 < wt
  · have hd : decide (2000 < wt) = true := decide_eq_true hw
    rw [hd]
    clear HRI HRT HTX HQU HRQ HWR HRW
    go_wp2
    go_ret
    exact ⟨rfl, hfin⟩
  have hd : decide (2000 < wt) = false := decide_eq_false hw
  rw [hd]
  by_cases hsm : 60 < s.length
  · have hsb : decide ((s.length : Int) > 60) = true := by rw [decide_eq_true_iff]; omega
    clear HRI HRT HTX HQU HRQ HWR HRW
    go_wp2
    go_ret
    exact ⟨rfl, hfin⟩
  have hsb : decide ((s.length : Int) > 60) = false := by rw [decide_eq_false_iff_not]; omega
  have HRIx := Hid.mk' (HRI.out (by omega) _ hz2)
  have HQUx := Hid.mk' (HQU.out (by omega))
  have HRQx := Hid.mk' (HRQ.out (by omega))
  have HWRx := Hid.mk' (HWR.out (by omega))
  have HTXx : Hid (∀ W, Below W0.heap.size W0 W → _) := fun W hb => HTX.out (by omega) W hb
  clear HRI HQU HRQ HWR HTX
  go_wp2_with fail
  refine HRIx.out.mono ?_
  rintro e w3 ⟨rfl, hb3⟩
  have hz3 := HT.out _ _ hz2 hb3
  clear HRIx f0 f1 f2 f3 hfin hb3 hz2
  obtain ⟨⟨f0, f1, f2, f3⟩, hfin⟩ := HE.out _ hz3
  have hx : (x = 0 ∧ (x == 0) = true) ∨ (x ≠ 0 ∧ (x == 0) = false) := by
    by_cases h : x = 0
    · exact .inl ⟨h, by simp [h]⟩
    · exact .inr ⟨h, by simp [h]⟩
  rcases hx with ⟨hx, hxb⟩ | ⟨hx, hxb⟩
  · have HRTx := Hid.mk' (HRT.out hx (by omega) _ hz3)
    simp only [if_pos hx] at HTXx
    obtain ⟨T, hT⟩ : ∃ T, strL tt = T := ⟨_, rfl⟩
    obtain ⟨Q, hQ⟩ : ∃ Q, strL qq = Q := ⟨_, rfl⟩
    rw [hT] at HRTx HTXx
    rw [hQ] at HQUx HRQx
    rw [hxb]
    clear HRT
    go_wp2_with fail
    refine HRTx.out.mono ?_
    rintro e w4 ⟨rfl, hb4⟩
    have hz4 := HT.out _ _ hz3 hb4
    clear HRTx f0 f1 f2 f3 hfin hb4 hz3
    obtain ⟨⟨f0, f1, f2, f3⟩, hfin⟩ := HE.out _ hz4
    have HTXy := Hid.mk' (HTXx.out _ hz4)
    clear HTXx
    go_wp2_with fail
    refine HTXy.out.mono ?_
    rintro e w5 ⟨rfl, hb5⟩
    have hz5 := HT.out _ _ hz4 hb5
    clear HTXy f0 f1 f2 f3 hb5
    go_wp2_with fail
    refine (HQUx.out _).mono ?_
    rintro e w6 ⟨rfl, hb6⟩
    have hz6 := HT.out _ _ hz5 hb6
    go_wp2_with fail
    refine (HRQx.out _).mono ?_
    rintro e w7 ⟨rfl, hb7⟩
    have hz7 := HT.out _ _ hz6 hb7
    go_wp2_with fail
    refine (HWRx.out _).mono ?_
    rintro e w8 ⟨rfl, hb8⟩
    have hz8 := HT.out _ _ hz7 hb8
    go_wp2_with fail
    refine (HRW.out _).mono ?_
    rintro e w9 ⟨rfl, rfl⟩
    have hfin9 := (HE.out _ hz8).2
    go_wp2
    go_ret
    exact ⟨ret_bool (by first | rfl | simp), hfin9⟩
  · simp only [if_neg hx] at HTXx
    obtain ⟨Q, hQ⟩ : ∃ Q, strL qq = Q := ⟨_, rfl⟩
    rw [show strL [] = (⟨#[]⟩ : ByteArray) from rfl] at HTXx
    rw [hQ] at HQUx HRQx
    rw [hxb]
    have HTXy := Hid.mk' (HTXx.out _ hz3)
    clear HTXx HRT
    go_wp2_with fail
    refine HTXy.out.mono ?_
    rintro e w5 ⟨rfl, hb5⟩
    have hz5 := HT.out _ _ hz3 hb5
    clear HTXy f0 f1 f2 f3 hb5
    go_wp2_with fail
    refine (HQUx.out _).mono ?_
    rintro e w6 ⟨rfl, hb6⟩
    have hz6 := HT.out _ _ hz5 hb6
    go_wp2_with fail
    refine (HRQx.out _).mono ?_
    rintro e w7 ⟨rfl, hb7⟩
    have hz7 := HT.out _ _ hz6 hb7
    go_wp2_with fail
    refine (HWRx.out _).mono ?_
    rintro e w8 ⟨rfl, hb8⟩
    have hz8 := HT.out _ _ hz7 hb8
    go_wp2_with fail
    refine (HRW.out _).mono ?_
    rintro e w9 ⟨rfl, rfl⟩
    have hfin9 := (HE.out _ hz8).2
    go_wp2
    go_ret
    exact ⟨ret_bool (by first | rfl | simp), hfin9⟩
theorem texts12S_any (w : World) (p : Nat → Addr) (hg : Gl p w) (t : J) (hs : Small 140737488355328 t) (cs : List Value) (hv : VJ w t cs) (s : ByteArray) (hsl : s.size ≤ 140737488355328) :
    Calls Tryz.prog 4 #[.agg cs.toArray, .string s] w fun e w' => e = .returned (.bool true) ∧ Below w.heap.size w w' := by
  have h := texts12_any w p hg t hs cs hv s.data.toList hsl
  rw [strL_of] at h
  exact h
end Go.Proofs.YtjjoedkigjekcaaGreatDoor

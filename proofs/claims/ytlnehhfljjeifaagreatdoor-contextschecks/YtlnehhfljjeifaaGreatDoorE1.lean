/-
  What is proved here: what the reference's row answers, where the rows ahead are right.
-/
import Derived.Test.YtlnehhfljjeifaaGreatDoorE0
namespace Go.Proofs.YtlnehhfljjeifaaGreatDoor
open Go.RowKit

theorem row4 {l : List Rw} {i : Nat} (h : mayR (rw_ l i).fr = false) : rowCode l i = 4 := by unfold rowCode; rw [if_pos h]
theorem row6 {l : List Rw} {i : Nat} (h1 : mayR (rw_ l i).fr = true) (h2 : 0 < i ∧ (rw_ l i).fr ≤ (rw_ l (i - 1)).fr) : rowCode l i = 6 := by
  unfold rowCode; rw [if_neg (by rw [h1]; decide), if_pos h2]
theorem row5 {l : List Rw} {i : Nat} (h1 : mayR (rw_ l i).fr = true) (h2 : ¬ (0 < i ∧ (rw_ l i).fr ≤ (rw_ l (i - 1)).fr)) (h3 : formedR (rw_ l i) = false) : rowCode l i = 5 := by
  unfold rowCode; rw [if_neg (by rw [h1]; decide), if_neg h2, if_pos h3]
theorem fault0 {l : List Rw} {i : Nat} (h1 : mayR (rw_ l i).fr = true) (h2 : ¬ (0 < i ∧ (rw_ l i).fr ≤ (rw_ l (i - 1)).fr)) (h3 : formedR (rw_ l i) = true) : faultCode l i = 0 := by
  unfold faultCode; rw [if_neg (by rw [h1]; decide), if_neg h2, if_neg (by rw [h3]; decide)]
theorem any_rows {l : List Rw} {x y : Int} (h : Sought l.length (fun i => (rw_ l i).fr) x y) : decide (0 ≤ y) = l.any fun z => z.fr == x := by
  rcases h with ⟨k, rfl, hk, e⟩ | ⟨rfl, h⟩
  · rw [List.any_eq_true.2]
    · simp
    · refine ⟨rw_ l k, ?_, by simpa using e⟩
      unfold rw_
      rw [List.getD, List.getElem?_eq_getElem hk]
      exact List.getElem_mem hk
  · rw [List.any_eq_false.2]
    · rfl
    · intro z hz
      obtain ⟨k, hk, rfl⟩ := List.mem_iff_getElem.1 hz
      have := h k hk
      simp only [rw_, List.getD, List.getElem?_eq_getElem hk, Option.getD_some] at this
      simpa using this
theorem chain_sought {l : List Rw} {k : Nat} {x : Int} (hr : RiseR l k) (h : Sought k (fun j => (rw_ l j).fr) (rw_ l k).to0 x) : (x = -1 ∧ chainAt l k = 1) ∨ ∃ j : Nat, x = j ∧ j < k ∧ chainAt l k = 1 + chainAt l j := by
  rcases h with ⟨j, rfl, hj, e⟩ | ⟨rfl, h⟩
  · exact .inr ⟨j, rfl, hj, by unfold chainAt; rw [chain_hit l k j _ hj hr e]⟩
  · exact .inl ⟨rfl, by unfold chainAt; rw [chain_miss l k _ h]⟩
set_option maxRecDepth 20000 in
set_option maxHeartbeats 8000000 in
theorem refRowCode_any (vr vc ve : Value) (l : List Rw) (i : Nat) (w : World) (hT : Rows4 w vr l) (hl : l.length ≤ 2147483648) (hto : ∀ i, i < l.length → (rw_ l i).to.length ≤ 2147483648) (hi : i < l.length) (hok : ∀ j, j < i → rowCode l j = 0) :
    Calls Tryz.prog 67 #[.agg #[vr, vc, ve], .int .i64 i] w fun e w' => e = .returned (.int .i64 (rowCode l i)) ∧ Below w.heap.size w w' := by
  obtain ⟨W0, hW0, hsz, hb0, e0w, e1w, e2w⟩ := norm_box w vr vc ve
  have hri := rise_of hok
  have HAC : Hid (∀ W (j : Nat), Below w.heap.size w W → j ≤ i → 0 < (rw_ l i).to.length → Calls Tryz.prog 100 #[.agg #[vr, vc, ve], .int .i64 j] W fun e w' => (∃ x, e = .returned (.int .i64 x) ∧ ((x = -1 ∧ chainAt l j = 1) ∨ ∃ j' : Nat, x = j' ∧ j' < j ∧ chainAt l j = 1 + chainAt l j')) ∧ Below W.heap.size W w') := fun W j hb hj h0 => by
    have hn : 0 < (rw_ l j).to.length := by
      rcases Nat.lt_or_ge j i with g | g
      · have := (formed_parts (rowCode_zero (hok j g)).2.2.1).1
        omega
      · obtain rfl : j = i := by omega
        exact h0
    refine (refAhead_any vr vc ve l j W (hT.below hb) hl (by omega) hn).mono ?_
    rintro e w' ⟨⟨x, rfl, hx⟩, hb'⟩
    exact ⟨⟨x, rfl, chain_sought (fun a b hab hbj => hri a b hab (by omega)) hx⟩, hb'⟩
  have HRA : Hid (∀ W, Below w.heap.size w W → Calls Tryz.prog 99 #[.agg #[vr, vc, ve], .int .i32 (rw_ l i).to1] W fun e w' => (∃ x, e = .returned (.int .i64 x) ∧ decide (0 ≤ x) = (l.any fun z => z.fr == (rw_ l i).to1)) ∧ Below W.heap.size W w') := fun W hb => by
    refine (refRow_any vr vc ve l (rw_ l i).to1 W (hT.below hb) hl).mono ?_
    rintro e w' ⟨⟨x, rfl, hx⟩, hb'⟩
    exact ⟨⟨x, rfl, any_rows hx⟩, hb'⟩
  have hLT : (rw_ l i).to.length ≤ 2147483648 := hto i hi
  obtain ⟨a, cap, rfl, hTj⟩ := id hT
  obtain ⟨b, off, tv, rfl, d0w, d1w, hR⟩ := hTj i hi
  obtain ⟨ta, tcap, rfl, hRt⟩ := hR
  have d0 := (hb0.cell (p := ⟨b, off + i * 2, none⟩) (lt_of_cell d0w)).trans d0w
  have d1 := (hb0.cell (p := ⟨b, off + i * 2 + 1, none⟩) (lt_of_cell d1w)).trans d1w
  have HP : Hid (0 < i → ∀ W, Below w.heap.size w W → W.cell? ⟨b, off + (i - 1) * 2, none⟩ = some (.int .i32 (rw_ l (i - 1)).fr)) := fun h0 W hb => by
    obtain ⟨b2, off2, tv2, e2, d2, -, -⟩ := hTj (i - 1) (by omega)
    obtain ⟨rfl, rfl⟩ : b = b2 ∧ off = off2 := by simpa using e2
    exact (hb.cell (p := ⟨b, off + (i - 1) * 2, none⟩) (lt_of_cell d2)).trans d2
  have HRt : Hid (∀ W, Below w.heap.size w W → ∀ j, j < (rw_ l i).to.length → ∃ b off, ta = some ⟨b, off, none⟩ ∧ W.cell? ⟨b, off + j, none⟩ = some (.int .i32 ((rw_ l i).to.getD j 0))) := fun W hb j hj => by
    obtain ⟨b, off, rfl, hc⟩ := hRt j hj
    exact ⟨b, off, rfl, (hb.cell (p := ⟨b, off + j, none⟩) (lt_of_cell hc)).trans hc⟩
  have hil : (i : Int) < (l.length : Int) := by omega
  obtain ⟨W1, hW1⟩ : ∃ W1, W0.alloc (.cells #[.int .i32 (rw_ l i).fr, .slice ta (rw_ l i).to.length tcap] 118) = W1 := ⟨_, rfl⟩
  have hb01 : Below W0.heap.size W0 W1 := by rw [← hW1]; exact (Below.refl _ _).alloc (Nat.le_refl _) _
  have hsz1 : W1.heap.size = w.heap.size + 2 := by rw [← hW1, World.size_alloc, hsz]
  have hb1 : Below w.heap.size w W1 := hb0.trans (hb01.mono hb0.size)
  have r0 : W1.cell? ⟨w.heap.size + 1, 0, none⟩ = some (.int .i32 (rw_ l i).fr) := by rw [← hW1, ← hsz, World.cell?_alloc_new]; rfl
  have r1 : W1.cell? ⟨w.heap.size + 1, 1, none⟩ = some (.slice ta (rw_ l i).to.length tcap) := by rw [← hW1, ← hsz, World.cell?_alloc_new]; rfl
  have e0 := (hb01.cell (p := ⟨w.heap.size, 0, none⟩) (lt_of_cell e0w)).trans e0w
  have e1 := (hb01.cell (p := ⟨w.heap.size, 1, none⟩) (lt_of_cell e1w)).trans e1w
  have e2 := (hb01.cell (p := ⟨w.heap.size, 2, none⟩) (lt_of_cell e2w)).trans e2w
  have HE : Hid (∀ W, Below W1.heap.size W1 W → (W.cell? ⟨w.heap.size, 0, none⟩ = some (.slice (some ⟨b, off, none⟩) l.length cap) ∧ W.cell? ⟨w.heap.size, 1, none⟩ = some vc ∧ W.cell? ⟨w.heap.size, 2, none⟩ = some ve) ∧ W.cell? ⟨w.heap.size + 1, 1, none⟩ = some (.slice ta (rw_ l i).to.length tcap) ∧ Below w.heap.size w W) := fun W hb => ⟨⟨(hb.cell (lt_of_cell e0)).trans e0, (hb.cell (lt_of_cell e1)).trans e1, (hb.cell (lt_of_cell e2)).trans e2⟩, (hb.cell (lt_of_cell r1)).trans r1, hb1.trans (hb.mono hb1.size)⟩
  have HR4 : Hid (mayR (rw_ l i).fr = false → rowCode l i = 4) := row4
  have HR6 : Hid (mayR (rw_ l i).fr = true → 0 < i ∧ (rw_ l i).fr ≤ (rw_ l (i - 1)).fr → rowCode l i = 6) := row6
  have HR5 : Hid (mayR (rw_ l i).fr = true → ¬ (0 < i ∧ (rw_ l i).fr ≤ (rw_ l (i - 1)).fr) → formedR (rw_ l i) = false → rowCode l i = 5) := row5
  have HR9 : Hid (mayR (rw_ l i).fr = true → ¬ (0 < i ∧ (rw_ l i).fr ≤ (rw_ l (i - 1)).fr) → formedR (rw_ l i) = true → ((rw_ l i).to.length = 2 ∧ (l.any fun x => x.fr == (rw_ l i).to1) = true) ∨ 8 < chainAt l i → rowCode l i = 9) := fun h1 h2 h3 h4 => rowCode_deep (fault0 h1 h2 h3) h4
  have HR0 : Hid (mayR (rw_ l i).fr = true → ¬ (0 < i ∧ (rw_ l i).fr ≤ (rw_ l (i - 1)).fr) → formedR (rw_ l i) = true → ¬ (((rw_ l i).to.length = 2 ∧ (l.any fun x => x.fr == (rw_ l i).to1) = true) ∨ 8 < chainAt l i) → rowCode l i = 0) := fun h1 h2 h3 h4 => rowCode_none (fault0 h1 h2 h3) h4
  have HFL : Hid (¬ ((rw_ l i).to.length = 1 ∨ (rw_ l i).to.length = 2) → formedR (rw_ l i) = false) := formed_len
  have HFG : Hid ((rw_ l i).fr ≤ (rw_ l i).to0 → formedR (rw_ l i) = false) := formed_ge
  have HFN : Hid (∀ k, k < (rw_ l i).to.length → mayR ((rw_ l i).to.getD k 0) = false → formedR (rw_ l i) = false) := fun k hk h => formed_not hk h
  have HFY : Hid (((rw_ l i).to.length = 1 ∨ (rw_ l i).to.length = 2) → (rw_ l i).to0 < (rw_ l i).fr → (∀ k, k < (rw_ l i).to.length → mayR ((rw_ l i).to.getD k 0) = true) → formedR (rw_ l i) = true) := formed_yes
  have HRR : Hid (∀ r W, _) := fun r W => refRight4_any r W
  have HHH : Hid (∀ r W, _) := fun r W => refHangul_any r W
  have h00 : Hid ((rw_ l i).to.getD 0 0 = (rw_ l i).to0) := rfl
  have h11 : Hid ((rw_ l i).to.getD 1 0 = (rw_ l i).to1) := rfl
  have hmay : mayR (rw_ l i).fr = (rightR (rw_ l i).fr && !hang (rw_ l i).fr) := rfl
  have HMA : Hid (∀ r, mayR r = (rightR r && !hang r)) := fun r => rfl
  clear hT hTj hRt hri hok hto d0w d1w hb01 e1w e2w
  have HCA : Hid (∃ ch, chainAt l i = ch) := ⟨_, rfl⟩
  generalize rowCode l i = res at *
  generalize formedR (rw_ l i) = fm at *
  generalize (rw_ l (i - 1)).fr = pf at *
  generalize (rw_ l i).to0 = t0 at *
  generalize (rw_ l i).to1 = t1 at *
  generalize (l.any fun x => x.fr == t1) = an at *
  generalize (rw_ l i).fr = fr at *
  generalize (rw_ l i).to = to at *
  have HRf := Hid.mk' (HRR.out fr W1)
  have HHf := Hid.mk' (HHH.out fr W1)
  cases hrr : rightR fr
  · rw [hrr] at hmay HRf
    have hres := Hid.mk' (HR4.out hmay)
    clear HR4 HR6 HR5 HR9 HR0 HFL HFG HFN HFY HAC HRA HP HRt HE HHH HHf HRR hmay hrr h00 h11 HMA HCA
    go_enter Tryz.func67, Tryz.ntmps67
    go_wp2_with fail
    refine HRf.out.mono ?_
    rintro e w1 ⟨rfl, rfl⟩
    go_wp2
    go_ret
    exact ⟨ret_int (by rw [hres.out]; rfl), hb1⟩
  cases hhh : hang fr
  rotate_left
  · rw [hrr, hhh] at hmay
    rw [hrr] at HRf
    rw [hhh] at HHf
    have hres := Hid.mk' (HR4.out hmay)
    clear HR4 HR6 HR5 HR9 HR0 HFL HFG HFN HFY HAC HRA HP HRt HE HHH HRR hmay hrr hhh h00 h11 HMA HCA
    go_enter Tryz.func67, Tryz.ntmps67
    go_wp2_with fail
    refine HRf.out.mono ?_
    rintro e w1 ⟨rfl, rfl⟩
    go_wp2_with fail
    refine HHf.out.mono ?_
    rintro e w1 ⟨rfl, rfl⟩
    go_wp2
    go_ret
    exact ⟨ret_int (by rw [hres.out]; rfl), hb1⟩
  rw [hrr, hhh] at hmay
  rw [hrr] at HRf
  rw [hhh] at HHf
  have hR6 := Hid.mk' (HR6.out hmay)
  have hR5 := Hid.mk' (HR5.out hmay)
  have hR9 := Hid.mk' (HR9.out hmay)
  have hR0 := Hid.mk' (HR0.out hmay)
  clear HR4 HR6 HR5 HR9 HR0 hmay hrr hhh
  by_cases hord : 0 < i ∧ fr ≤ pf
  · have hres := Hid.mk' (hR6.out hord)
    have dp := HP.out hord.1 W1 hb1
    obtain ⟨k, rfl⟩ : ∃ k, i = k + 1 := ⟨i - 1, by omega⟩
    simp only [Nat.add_sub_cancel] at dp
    have hled : decide (fr ≤ pf) = true := decide_eq_true hord.2
    have hkl : (k : Int) < (l.length : Int) := by omega
    clear hR6 hR5 hR9 hR0 HFL HFG HFN HFY HAC HRA HP HRt HE HHH HRR hord h00 h11 HMA HCA
    go_enter Tryz.func67, Tryz.ntmps67
    go_wp2_with fail
    refine HRf.out.mono ?_
    rintro e w1 ⟨rfl, rfl⟩
    go_wp2_with fail
    refine HHf.out.mono ?_
    rintro e w1 ⟨rfl, rfl⟩
    go_wp2
    go_region
    go_wp2
    go_ret
    exact ⟨ret_int (by rw [hres.out]; rfl), hb1.drew⟩
  have hR5' := Hid.mk' (hR5.out hord)
  have hR9' := Hid.mk' (hR9.out hord)
  have hR0' := Hid.mk' (hR0.out hord)
  have HLE : Hid (0 < i → decide (fr ≤ pf) = false) := fun h => decide_eq_false (fun g => hord ⟨h, g⟩)
  clear hR6 hR5 hR9 hR0 hord
  have hcase : i = 0 ∨ ∃ k : Nat, i = k + 1 ∧ W1.cell? ⟨b, off + k * 2, none⟩ = some (.int .i32 pf) ∧ decide (fr ≤ pf) = false ∧ (k : Int) < (l.length : Int) := by
    rcases (by omega : i = 0 ∨ 0 < i) with hi0 | hi0
    · exact .inl hi0
    · refine .inr ⟨i - 1, by omega, HP.out hi0 W1 hb1, HLE.out hi0, by omega⟩
  rcases hcase with rfl | ⟨k0, rfl, dp, hled, hkl⟩
  · simp only [Nat.zero_mul, Nat.add_zero] at d0 d1
    clear HLE HP
    by_cases h12 : to.length = 1 ∨ to.length = 2
    rotate_left
    · have hres := Hid.mk' (hR5'.out (HFL.out h12))
      have n1 : ((to.length : Int) != 1) = true := by simp; omega
      have n2 : ((to.length : Int) != 2) = true := by simp; omega
      clear HFL HFG HFN HFY HAC HRA HRt HE HHH HRR h00 h11 HMA HCA hR5' hR9' hR0' h12
      go_enter Tryz.func67, Tryz.ntmps67
      go_wp2_with fail
      refine HRf.out.mono ?_
      rintro e w1 ⟨rfl, rfl⟩
      go_wp2_with fail
      refine HHf.out.mono ?_
      rintro e w1 ⟨rfl, rfl⟩
      go_wp2
      go_region
      go_wp2
      go_region
      go_wp2
      go_ret
      exact ⟨ret_int (by rw [hres.out]; rfl), hb1.drew.drew⟩
    · obtain ⟨tb, toff, rfl, c0⟩ := HRt.out W1 hb1 0 (by omega)
      rw [h00.out, Nat.add_zero] at c0
      have hlen : (0 : Int) < (to.length : Int) := by omega
      have n1 : (Hid (to.length = 1) ∧ ((to.length : Int) != 1) = false ∧ ((to.length : Int) != 2) = true ∧ ((to.length : Int) == 2) = false) ∨ (Hid (to.length = 2) ∧ ((to.length : Int) != 1) = true ∧ ((to.length : Int) != 2) = false ∧ ((to.length : Int) == 2) = true) := by
        rcases h12 with h | h
        · left; refine ⟨h, ?_⟩; rw [h]; decide
        · right; refine ⟨h, ?_⟩; rw [h]; decide
      by_cases hge : fr ≤ t0
      · have hgd : decide (fr ≤ t0) = true := decide_eq_true hge
        have hres := Hid.mk' (hR5'.out (HFG.out hge))
        clear HFL HFG HFN HFY HAC HRA HRt HE HHH HRR h00 h11 HMA HCA hR5' hR9' hR0' h12 hge
        rcases n1 with ⟨-, n1, n2, -⟩ | ⟨-, n1, n2, -⟩
        all_goals
          go_enter Tryz.func67, Tryz.ntmps67
          go_wp2_with fail
          refine HRf.out.mono ?_
          rintro e w1 ⟨rfl, rfl⟩
          go_wp2_with fail
          refine HHf.out.mono ?_
          rintro e w1 ⟨rfl, rfl⟩
          go_wp2
          go_region
          go_wp2
          go_region
          go_wp2
          go_ret
          exact ⟨ret_int (by rw [hres.out]; rfl), hb1.drew.drew⟩
      · have hgd : decide (fr ≤ t0) = false := decide_eq_false hge
        have hFY := Hid.mk' (HFY.out h12 (by omega))
        clear HFL HFG HFY h12 hge HCA
        rcases n1 with ⟨H12, n1, n2, n3⟩ | ⟨H12, n1, n2, n3⟩
        · skip
          go_enter Tryz.func67, Tryz.ntmps67
          go_wp2_with fail
          refine HRf.out.mono ?_
          rintro e w1 ⟨rfl, rfl⟩
          go_wp2_with fail
          refine HHf.out.mono ?_
          rintro e w1 ⟨rfl, rfl⟩
          go_wp2
          go_region
          go_wp2
          go_region
          go_wp2
          go_loopw [6] (fun x wr => ∃ k : Nat, x = .int .i64 k ∧ k ≤ to.length ∧ Hid (∀ j, j < k → mayR (to.getD j 0) = true) ∧ Below W1.heap.size W1 wr) (fun y _ => to.length - (intOf y).toNat)
          case atStart => exact ⟨0, rfl, Nat.zero_le _, fun j hj => by omega, (Below.refl _ _).drew.drew⟩
          case round =>
            obtain ⟨k, rfl, hk, hm, hb⟩ := hrel
            obtain ⟨⟨x0, x1, x2⟩, x3, hbw⟩ := HE.out wr hb
            by_cases hlk : k < to.length
            · obtain ⟨tb2, toff2, ee, ck⟩ := HRt.out wr hbw k hlk
              obtain ⟨rfl, rfl⟩ : tb = tb2 ∧ toff = toff2 := by simpa using ee
              have HRk := Hid.mk' (HRR.out (to.getD k 0) wr)
              have HHk := Hid.mk' (HHH.out (to.getD k 0) wr)
              have HFk := Hid.mk' (HFN.out k hlk)
              have HMk := Hid.mk' (HMA.out (to.getD k 0))
              have HS : Hid (mayR (to.getD k 0) = true → ∀ j, j < k + 1 → mayR (to.getD j 0) = true) := fun h j hj => by
                rcases Nat.lt_or_ge j k with g | g
                · exact hm.out j g
                · obtain rfl : j = k := by omega
                  exact h
              clear ee e0w e0 e1 e2 r0 r1 c0 d0 d1
              generalize to.getD k 0 = z at ck HRk HHk HFk HMk HS
              cases hrz : rightR z
              · have hres := Hid.mk' (hR5'.out (HFk.out (by rw [HMk.out, hrz]; rfl)))
                rw [hrz] at HRk
                go_wp2_with fail
                refine HRk.out.mono ?_
                rintro e w1 ⟨rfl, rfl⟩
                go_wp2
                go_ret
                exact ⟨ret_int (by rw [hres.out]; rfl), hbw⟩
              · rw [hrz] at HRk
                cases hhz : hang z
                · rw [hhz] at HHk
                  have hS := Hid.mk' (HS.out (by rw [HMk.out, hrz, hhz]; rfl))
                  go_wp2_with fail
                  refine HRk.out.mono ?_
                  rintro e w1 ⟨rfl, rfl⟩
                  go_wp2_with fail
                  refine HHk.out.mono ?_
                  rintro e w1 ⟨rfl, rfl⟩
                  go_wp2
                  go_roundw
                  case rel => exact ⟨k + 1, by go_num, by omega, hS, hb⟩
                  case measure => simp [intOf]; omega
                · rw [hhz] at HHk
                  have hres := Hid.mk' (hR5'.out (HFk.out (by rw [HMk.out, hrz, hhz]; rfl)))
                  go_wp2_with fail
                  refine HRk.out.mono ?_
                  rintro e w1 ⟨rfl, rfl⟩
                  go_wp2_with fail
                  refine HHk.out.mono ?_
                  rintro e w1 ⟨rfl, rfl⟩
                  go_wp2
                  go_ret
                  exact ⟨ret_int (by rw [hres.out]; rfl), hbw⟩
            · obtain rfl : k = to.length := by omega
              have hfm : Hid (fm = true) := hFY.out hm.out
              have hres9 : Hid True := trivial
              clear e0w e0 e1 e2 r0 r1 c0 d0 d1
              have HNA : Hid (¬ (to.length = 2 ∧ an = true)) := fun h => by have := H12.out; omega
              go_wp2
              go_region
              go_wp2
              go_loopw [7, 8] (fun x y wr => ∃ (n : Nat) (z : Int), x = .int .i64 n ∧ y = .int .i64 z ∧ n ≤ 8 ∧ Hid ((z = -1 ∧ n = chainAt l (0)) ∨ ∃ j : Nat, z = j ∧ j ≤ 0 ∧ n + chainAt l j = chainAt l (0)) ∧ Below W1.heap.size W1 wr) (fun _ y _ => (intOf y + 1).toNat)
              case atStart => exact ⟨0, _, rfl, rfl, by omega, .inr ⟨0, by first | rfl | omega, Nat.le_refl _, by omega⟩, hb.drew⟩
              case round =>
                obtain ⟨n, z, rfl, rfl, hn8, hz, hb7⟩ := hrel
                obtain ⟨⟨y0, y1, y2⟩, -, hbw7⟩ := HE.out wr hb7
                rcases hz.out with ⟨rfl, hn⟩ | ⟨j, rfl, hj, hn⟩
                · have hres := Hid.mk' (hR0'.out hfm.out (fun h => by rcases h with h | h <;> first | omega | exact HNA.out h))
                  clear hz hn
                  go_wp2
                  go_ret
                  exact ⟨ret_int (by rw [hres.out]; rfl), hbw7⟩
                · have hc1 : 1 ≤ chainAt l j := by unfold chainAt; omega
                  by_cases h8 : n = 8
                  · have hres := Hid.mk' (hR9'.out hfm.out (.inr (by omega)))
                    subst h8
                    clear hz hn hc1
                    go_wp2
                    go_ret
                    exact ⟨ret_int (by rw [hres.out]; rfl), hbw7⟩
                  · have HAj := Hid.mk' (HAC.out wr j hbw7 hj (by omega))
                    have hn8' : n + 1 ≤ 8 := by omega
                    have HN := Hid.mk' hn
                    clear hz hn hc1 h8 hres9
                    go_wp2_with fail
                    refine HAj.out.mono ?_
                    rintro e w8 ⟨⟨x, rfl, hx⟩, hb8⟩
                    have hb78 := hb7.trans (hb8.mono hb7.size)
                    have hz' : Hid ((x = -1 ∧ n + 1 = chainAt l (0)) ∨ ∃ j : Nat, x = j ∧ j ≤ 0 ∧ n + 1 + chainAt l j = chainAt l (0)) := by
                      have := HN.out
                      rcases hx with ⟨rfl, h⟩ | ⟨j', rfl, h1, h2⟩
                      · exact .inl ⟨rfl, by omega⟩
                      · exact .inr ⟨j', rfl, by omega, by omega⟩
                    have hxj : -1 ≤ x ∧ x < j := by
                      rcases hx with ⟨rfl, h⟩ | ⟨j', rfl, h1, h2⟩ <;> omega
                    clear hx
                    go_wp2
                    go_roundw
                    case rel => exact ⟨n + 1, x, by go_num, rfl, hn8', hz', hb78⟩
                    case measure => simp [intOf]; omega
        · skip
          go_enter Tryz.func67, Tryz.ntmps67
          go_wp2_with fail
          refine HRf.out.mono ?_
          rintro e w1 ⟨rfl, rfl⟩
          go_wp2_with fail
          refine HHf.out.mono ?_
          rintro e w1 ⟨rfl, rfl⟩
          go_wp2
          go_region
          go_wp2
          go_region
          go_wp2
          go_loopw [6] (fun x wr => ∃ k : Nat, x = .int .i64 k ∧ k ≤ to.length ∧ Hid (∀ j, j < k → mayR (to.getD j 0) = true) ∧ Below W1.heap.size W1 wr) (fun y _ => to.length - (intOf y).toNat)
          case atStart => exact ⟨0, rfl, Nat.zero_le _, fun j hj => by omega, (Below.refl _ _).drew.drew⟩
          case round =>
            obtain ⟨k, rfl, hk, hm, hb⟩ := hrel
            obtain ⟨⟨x0, x1, x2⟩, x3, hbw⟩ := HE.out wr hb
            by_cases hlk : k < to.length
            · obtain ⟨tb2, toff2, ee, ck⟩ := HRt.out wr hbw k hlk
              obtain ⟨rfl, rfl⟩ : tb = tb2 ∧ toff = toff2 := by simpa using ee
              have HRk := Hid.mk' (HRR.out (to.getD k 0) wr)
              have HHk := Hid.mk' (HHH.out (to.getD k 0) wr)
              have HFk := Hid.mk' (HFN.out k hlk)
              have HMk := Hid.mk' (HMA.out (to.getD k 0))
              have HS : Hid (mayR (to.getD k 0) = true → ∀ j, j < k + 1 → mayR (to.getD j 0) = true) := fun h j hj => by
                rcases Nat.lt_or_ge j k with g | g
                · exact hm.out j g
                · obtain rfl : j = k := by omega
                  exact h
              clear ee e0w e0 e1 e2 r0 r1 c0 d0 d1
              generalize to.getD k 0 = z at ck HRk HHk HFk HMk HS
              cases hrz : rightR z
              · have hres := Hid.mk' (hR5'.out (HFk.out (by rw [HMk.out, hrz]; rfl)))
                rw [hrz] at HRk
                go_wp2_with fail
                refine HRk.out.mono ?_
                rintro e w1 ⟨rfl, rfl⟩
                go_wp2
                go_ret
                exact ⟨ret_int (by rw [hres.out]; rfl), hbw⟩
              · rw [hrz] at HRk
                cases hhz : hang z
                · rw [hhz] at HHk
                  have hS := Hid.mk' (HS.out (by rw [HMk.out, hrz, hhz]; rfl))
                  go_wp2_with fail
                  refine HRk.out.mono ?_
                  rintro e w1 ⟨rfl, rfl⟩
                  go_wp2_with fail
                  refine HHk.out.mono ?_
                  rintro e w1 ⟨rfl, rfl⟩
                  go_wp2
                  go_roundw
                  case rel => exact ⟨k + 1, by go_num, by omega, hS, hb⟩
                  case measure => simp [intOf]; omega
                · rw [hhz] at HHk
                  have hres := Hid.mk' (hR5'.out (HFk.out (by rw [HMk.out, hrz, hhz]; rfl)))
                  go_wp2_with fail
                  refine HRk.out.mono ?_
                  rintro e w1 ⟨rfl, rfl⟩
                  go_wp2_with fail
                  refine HHk.out.mono ?_
                  rintro e w1 ⟨rfl, rfl⟩
                  go_wp2
                  go_ret
                  exact ⟨ret_int (by rw [hres.out]; rfl), hbw⟩
            · obtain rfl : k = to.length := by omega
              have hfm : Hid (fm = true) := hFY.out hm.out
              have hres9 : Hid True := trivial
              clear e0w e0 e1 e2 r0 r1 c0 d0 d1
              obtain ⟨tb2, toff2, ee, c1⟩ := HRt.out wr hbw 1 (by have := H12.out; omega)
              obtain ⟨rfl, rfl⟩ : tb = tb2 ∧ toff = toff2 := by simpa using ee
              rw [h11.out] at c1
              have HRA1 := Hid.mk' (HRA.out wr.drew hbw.drew)
              have h1l : (1 : Int) < (to.length : Int) := by have := H12.out; omega
              clear ee
              go_wp2
              go_region_held3 (fun w' => (w'.cell? ⟨w.heap.size, 0, none⟩ = some (.slice (some ⟨b, off, none⟩) l.length cap) ∧ w'.cell? ⟨w.heap.size, 1, none⟩ = some vc ∧ w'.cell? ⟨w.heap.size, 2, none⟩ = some ve) ∧ w'.cell? ⟨w.heap.size + 1, 1, none⟩ = some (.slice (some ⟨tb, toff, none⟩) to.length tcap) ∧ w'.cell? ⟨tb, toff + 1, none⟩ = some (.int .i32 t1)) (first | exact ⟨⟨x0, x1, x2⟩, x3, c1⟩ | exact ⟨⟨z0, z1, z2⟩, z3, z4⟩ | go_keep) ((go_at_call 99; refine HRA1.out.mono ?_; rintro e w6 ⟨⟨x, rfl, hx⟩, hb6⟩; have hb6' := hb.drew.trans (hb6.mono hb.size); obtain ⟨⟨z0, z1, z2⟩, z3, hbw6⟩ := HE.out w6 hb6'; have z4 := (hb6.cell (p := ⟨tb, toff + 1, none⟩) (lt_of_cell c1)).trans c1))
              cases an
              · have HNA : Hid (¬ (to.length = 2 ∧ false = true)) := fun h => by cases h.2
                clear x0 x1 x2 x3 c1 z0 z1 z2 z3 z4
                go_wp2
                go_loopw [7, 8] (fun x y wr => ∃ (n : Nat) (z : Int), x = .int .i64 n ∧ y = .int .i64 z ∧ n ≤ 8 ∧ Hid ((z = -1 ∧ n = chainAt l (0)) ∨ ∃ j : Nat, z = j ∧ j ≤ 0 ∧ n + chainAt l j = chainAt l (0)) ∧ Below W1.heap.size W1 wr) (fun _ y _ => (intOf y + 1).toNat)
                case atStart => exact ⟨0, _, rfl, rfl, by omega, .inr ⟨0, by first | rfl | omega, Nat.le_refl _, by omega⟩, hb6'⟩
                case round =>
                  obtain ⟨n, z, rfl, rfl, hn8, hz, hb7⟩ := hrel
                  obtain ⟨⟨y0, y1, y2⟩, -, hbw7⟩ := HE.out wr hb7
                  rcases hz.out with ⟨rfl, hn⟩ | ⟨j, rfl, hj, hn⟩
                  · have hres := Hid.mk' (hR0'.out hfm.out (fun h => by rcases h with h | h <;> first | omega | exact HNA.out h))
                    clear hz hn
                    go_wp2
                    go_ret
                    exact ⟨ret_int (by rw [hres.out]; rfl), hbw7⟩
                  · have hc1 : 1 ≤ chainAt l j := by unfold chainAt; omega
                    by_cases h8 : n = 8
                    · have hres := Hid.mk' (hR9'.out hfm.out (.inr (by omega)))
                      subst h8
                      clear hz hn hc1
                      go_wp2
                      go_ret
                      exact ⟨ret_int (by rw [hres.out]; rfl), hbw7⟩
                    · have HAj := Hid.mk' (HAC.out wr j hbw7 hj (by omega))
                      have hn8' : n + 1 ≤ 8 := by omega
                      have HN := Hid.mk' hn
                      clear hz hn hc1 h8 hres9
                      go_wp2_with fail
                      refine HAj.out.mono ?_
                      rintro e w8 ⟨⟨x, rfl, hx⟩, hb8⟩
                      have hb78 := hb7.trans (hb8.mono hb7.size)
                      have hz' : Hid ((x = -1 ∧ n + 1 = chainAt l (0)) ∨ ∃ j : Nat, x = j ∧ j ≤ 0 ∧ n + 1 + chainAt l j = chainAt l (0)) := by
                        have := HN.out
                        rcases hx with ⟨rfl, h⟩ | ⟨j', rfl, h1, h2⟩
                        · exact .inl ⟨rfl, by omega⟩
                        · exact .inr ⟨j', rfl, by omega, by omega⟩
                      have hxj : -1 ≤ x ∧ x < j := by
                        rcases hx with ⟨rfl, h⟩ | ⟨j', rfl, h1, h2⟩ <;> omega
                      clear hx
                      go_wp2
                      go_roundw
                      case rel => exact ⟨n + 1, x, by go_num, rfl, hn8', hz', hb78⟩
                      case measure => simp [intOf]; omega
              · have hres := Hid.mk' (hR9'.out hfm.out (.inl ⟨H12.out, rfl⟩))
                go_wp2
                go_ret
                exact ⟨ret_int (by rw [hres.out]; rfl), hbw6⟩
  · skip
    clear HLE HP
    by_cases h12 : to.length = 1 ∨ to.length = 2
    rotate_left
    · have hres := Hid.mk' (hR5'.out (HFL.out h12))
      have n1 : ((to.length : Int) != 1) = true := by simp; omega
      have n2 : ((to.length : Int) != 2) = true := by simp; omega
      clear HFL HFG HFN HFY HAC HRA HRt HE HHH HRR h00 h11 HMA HCA hR5' hR9' hR0' h12
      go_enter Tryz.func67, Tryz.ntmps67
      go_wp2_with fail
      refine HRf.out.mono ?_
      rintro e w1 ⟨rfl, rfl⟩
      go_wp2_with fail
      refine HHf.out.mono ?_
      rintro e w1 ⟨rfl, rfl⟩
      go_wp2
      go_region
      go_wp2
      go_region
      go_wp2
      go_ret
      exact ⟨ret_int (by rw [hres.out]; rfl), hb1.drew.drew⟩
    · obtain ⟨tb, toff, rfl, c0⟩ := HRt.out W1 hb1 0 (by omega)
      rw [h00.out, Nat.add_zero] at c0
      have hlen : (0 : Int) < (to.length : Int) := by omega
      have n1 : (Hid (to.length = 1) ∧ ((to.length : Int) != 1) = false ∧ ((to.length : Int) != 2) = true ∧ ((to.length : Int) == 2) = false) ∨ (Hid (to.length = 2) ∧ ((to.length : Int) != 1) = true ∧ ((to.length : Int) != 2) = false ∧ ((to.length : Int) == 2) = true) := by
        rcases h12 with h | h
        · left; refine ⟨h, ?_⟩; rw [h]; decide
        · right; refine ⟨h, ?_⟩; rw [h]; decide
      by_cases hge : fr ≤ t0
      · have hgd : decide (fr ≤ t0) = true := decide_eq_true hge
        have hres := Hid.mk' (hR5'.out (HFG.out hge))
        clear HFL HFG HFN HFY HAC HRA HRt HE HHH HRR h00 h11 HMA HCA hR5' hR9' hR0' h12 hge
        rcases n1 with ⟨-, n1, n2, -⟩ | ⟨-, n1, n2, -⟩
        all_goals
          go_enter Tryz.func67, Tryz.ntmps67
          go_wp2_with fail
          refine HRf.out.mono ?_
          rintro e w1 ⟨rfl, rfl⟩
          go_wp2_with fail
          refine HHf.out.mono ?_
          rintro e w1 ⟨rfl, rfl⟩
          go_wp2
          go_region
          go_wp2
          go_region
          go_wp2
          go_ret
          exact ⟨ret_int (by rw [hres.out]; rfl), hb1.drew.drew⟩
      · have hgd : decide (fr ≤ t0) = false := decide_eq_false hge
        have hFY := Hid.mk' (HFY.out h12 (by omega))
        clear HFL HFG HFY h12 hge HCA
        rcases n1 with ⟨H12, n1, n2, n3⟩ | ⟨H12, n1, n2, n3⟩
        · skip
          go_enter Tryz.func67, Tryz.ntmps67
          go_wp2_with fail
          refine HRf.out.mono ?_
          rintro e w1 ⟨rfl, rfl⟩
          go_wp2_with fail
          refine HHf.out.mono ?_
          rintro e w1 ⟨rfl, rfl⟩
          go_wp2
          go_region
          go_wp2
          go_region
          go_wp2
          go_loopw [6] (fun x wr => ∃ k : Nat, x = .int .i64 k ∧ k ≤ to.length ∧ Hid (∀ j, j < k → mayR (to.getD j 0) = true) ∧ Below W1.heap.size W1 wr) (fun y _ => to.length - (intOf y).toNat)
          case atStart => exact ⟨0, rfl, Nat.zero_le _, fun j hj => by omega, (Below.refl _ _).drew.drew⟩
          case round =>
            obtain ⟨k, rfl, hk, hm, hb⟩ := hrel
            obtain ⟨⟨x0, x1, x2⟩, x3, hbw⟩ := HE.out wr hb
            by_cases hlk : k < to.length
            · obtain ⟨tb2, toff2, ee, ck⟩ := HRt.out wr hbw k hlk
              obtain ⟨rfl, rfl⟩ : tb = tb2 ∧ toff = toff2 := by simpa using ee
              have HRk := Hid.mk' (HRR.out (to.getD k 0) wr)
              have HHk := Hid.mk' (HHH.out (to.getD k 0) wr)
              have HFk := Hid.mk' (HFN.out k hlk)
              have HMk := Hid.mk' (HMA.out (to.getD k 0))
              have HS : Hid (mayR (to.getD k 0) = true → ∀ j, j < k + 1 → mayR (to.getD j 0) = true) := fun h j hj => by
                rcases Nat.lt_or_ge j k with g | g
                · exact hm.out j g
                · obtain rfl : j = k := by omega
                  exact h
              clear ee e0w e0 e1 e2 r0 r1 c0 d0 d1
              generalize to.getD k 0 = z at ck HRk HHk HFk HMk HS
              cases hrz : rightR z
              · have hres := Hid.mk' (hR5'.out (HFk.out (by rw [HMk.out, hrz]; rfl)))
                rw [hrz] at HRk
                go_wp2_with fail
                refine HRk.out.mono ?_
                rintro e w1 ⟨rfl, rfl⟩
                go_wp2
                go_ret
                exact ⟨ret_int (by rw [hres.out]; rfl), hbw⟩
              · rw [hrz] at HRk
                cases hhz : hang z
                · rw [hhz] at HHk
                  have hS := Hid.mk' (HS.out (by rw [HMk.out, hrz, hhz]; rfl))
                  go_wp2_with fail
                  refine HRk.out.mono ?_
                  rintro e w1 ⟨rfl, rfl⟩
                  go_wp2_with fail
                  refine HHk.out.mono ?_
                  rintro e w1 ⟨rfl, rfl⟩
                  go_wp2
                  go_roundw
                  case rel => exact ⟨k + 1, by go_num, by omega, hS, hb⟩
                  case measure => simp [intOf]; omega
                · rw [hhz] at HHk
                  have hres := Hid.mk' (hR5'.out (HFk.out (by rw [HMk.out, hrz, hhz]; rfl)))
                  go_wp2_with fail
                  refine HRk.out.mono ?_
                  rintro e w1 ⟨rfl, rfl⟩
                  go_wp2_with fail
                  refine HHk.out.mono ?_
                  rintro e w1 ⟨rfl, rfl⟩
                  go_wp2
                  go_ret
                  exact ⟨ret_int (by rw [hres.out]; rfl), hbw⟩
            · obtain rfl : k = to.length := by omega
              have hfm : Hid (fm = true) := hFY.out hm.out
              have hres9 : Hid True := trivial
              clear e0w e0 e1 e2 r0 r1 c0 d0 d1
              have HNA : Hid (¬ (to.length = 2 ∧ an = true)) := fun h => by have := H12.out; omega
              go_wp2
              go_region
              go_wp2
              go_loopw [7, 8] (fun x y wr => ∃ (n : Nat) (z : Int), x = .int .i64 n ∧ y = .int .i64 z ∧ n ≤ 8 ∧ Hid ((z = -1 ∧ n = chainAt l (k0 + 1)) ∨ ∃ j : Nat, z = j ∧ j ≤ k0 + 1 ∧ n + chainAt l j = chainAt l (k0 + 1)) ∧ Below W1.heap.size W1 wr) (fun _ y _ => (intOf y + 1).toNat)
              case atStart => exact ⟨0, _, rfl, rfl, by omega, .inr ⟨k0 + 1, by first | rfl | omega, Nat.le_refl _, by omega⟩, hb.drew⟩
              case round =>
                obtain ⟨n, z, rfl, rfl, hn8, hz, hb7⟩ := hrel
                obtain ⟨⟨y0, y1, y2⟩, -, hbw7⟩ := HE.out wr hb7
                rcases hz.out with ⟨rfl, hn⟩ | ⟨j, rfl, hj, hn⟩
                · have hres := Hid.mk' (hR0'.out hfm.out (fun h => by rcases h with h | h <;> first | omega | exact HNA.out h))
                  clear hz hn
                  go_wp2
                  go_ret
                  exact ⟨ret_int (by rw [hres.out]; rfl), hbw7⟩
                · have hc1 : 1 ≤ chainAt l j := by unfold chainAt; omega
                  by_cases h8 : n = 8
                  · have hres := Hid.mk' (hR9'.out hfm.out (.inr (by omega)))
                    subst h8
                    clear hz hn hc1
                    go_wp2
                    go_ret
                    exact ⟨ret_int (by rw [hres.out]; rfl), hbw7⟩
                  · have HAj := Hid.mk' (HAC.out wr j hbw7 hj (by omega))
                    have hn8' : n + 1 ≤ 8 := by omega
                    have HN := Hid.mk' hn
                    clear hz hn hc1 h8 hres9
                    go_wp2_with fail
                    refine HAj.out.mono ?_
                    rintro e w8 ⟨⟨x, rfl, hx⟩, hb8⟩
                    have hb78 := hb7.trans (hb8.mono hb7.size)
                    have hz' : Hid ((x = -1 ∧ n + 1 = chainAt l (k0 + 1)) ∨ ∃ j : Nat, x = j ∧ j ≤ k0 + 1 ∧ n + 1 + chainAt l j = chainAt l (k0 + 1)) := by
                      have := HN.out
                      rcases hx with ⟨rfl, h⟩ | ⟨j', rfl, h1, h2⟩
                      · exact .inl ⟨rfl, by omega⟩
                      · exact .inr ⟨j', rfl, by omega, by omega⟩
                    have hxj : -1 ≤ x ∧ x < j := by
                      rcases hx with ⟨rfl, h⟩ | ⟨j', rfl, h1, h2⟩ <;> omega
                    clear hx
                    go_wp2
                    go_roundw
                    case rel => exact ⟨n + 1, x, by go_num, rfl, hn8', hz', hb78⟩
                    case measure => simp [intOf]; omega
        · skip
          go_enter Tryz.func67, Tryz.ntmps67
          go_wp2_with fail
          refine HRf.out.mono ?_
          rintro e w1 ⟨rfl, rfl⟩
          go_wp2_with fail
          refine HHf.out.mono ?_
          rintro e w1 ⟨rfl, rfl⟩
          go_wp2
          go_region
          go_wp2
          go_region
          go_wp2
          go_loopw [6] (fun x wr => ∃ k : Nat, x = .int .i64 k ∧ k ≤ to.length ∧ Hid (∀ j, j < k → mayR (to.getD j 0) = true) ∧ Below W1.heap.size W1 wr) (fun y _ => to.length - (intOf y).toNat)
          case atStart => exact ⟨0, rfl, Nat.zero_le _, fun j hj => by omega, (Below.refl _ _).drew.drew⟩
          case round =>
            obtain ⟨k, rfl, hk, hm, hb⟩ := hrel
            obtain ⟨⟨x0, x1, x2⟩, x3, hbw⟩ := HE.out wr hb
            by_cases hlk : k < to.length
            · obtain ⟨tb2, toff2, ee, ck⟩ := HRt.out wr hbw k hlk
              obtain ⟨rfl, rfl⟩ : tb = tb2 ∧ toff = toff2 := by simpa using ee
              have HRk := Hid.mk' (HRR.out (to.getD k 0) wr)
              have HHk := Hid.mk' (HHH.out (to.getD k 0) wr)
              have HFk := Hid.mk' (HFN.out k hlk)
              have HMk := Hid.mk' (HMA.out (to.getD k 0))
              have HS : Hid (mayR (to.getD k 0) = true → ∀ j, j < k + 1 → mayR (to.getD j 0) = true) := fun h j hj => by
                rcases Nat.lt_or_ge j k with g | g
                · exact hm.out j g
                · obtain rfl : j = k := by omega
                  exact h
              clear ee e0w e0 e1 e2 r0 r1 c0 d0 d1
              generalize to.getD k 0 = z at ck HRk HHk HFk HMk HS
              cases hrz : rightR z
              · have hres := Hid.mk' (hR5'.out (HFk.out (by rw [HMk.out, hrz]; rfl)))
                rw [hrz] at HRk
                go_wp2_with fail
                refine HRk.out.mono ?_
                rintro e w1 ⟨rfl, rfl⟩
                go_wp2
                go_ret
                exact ⟨ret_int (by rw [hres.out]; rfl), hbw⟩
              · rw [hrz] at HRk
                cases hhz : hang z
                · rw [hhz] at HHk
                  have hS := Hid.mk' (HS.out (by rw [HMk.out, hrz, hhz]; rfl))
                  go_wp2_with fail
                  refine HRk.out.mono ?_
                  rintro e w1 ⟨rfl, rfl⟩
                  go_wp2_with fail
                  refine HHk.out.mono ?_
                  rintro e w1 ⟨rfl, rfl⟩
                  go_wp2
                  go_roundw
                  case rel => exact ⟨k + 1, by go_num, by omega, hS, hb⟩
                  case measure => simp [intOf]; omega
                · rw [hhz] at HHk
                  have hres := Hid.mk' (hR5'.out (HFk.out (by rw [HMk.out, hrz, hhz]; rfl)))
                  go_wp2_with fail
                  refine HRk.out.mono ?_
                  rintro e w1 ⟨rfl, rfl⟩
                  go_wp2_with fail
                  refine HHk.out.mono ?_
                  rintro e w1 ⟨rfl, rfl⟩
                  go_wp2
                  go_ret
                  exact ⟨ret_int (by rw [hres.out]; rfl), hbw⟩
            · obtain rfl : k = to.length := by omega
              have hfm : Hid (fm = true) := hFY.out hm.out
              have hres9 : Hid True := trivial
              clear e0w e0 e1 e2 r0 r1 c0 d0 d1
              obtain ⟨tb2, toff2, ee, c1⟩ := HRt.out wr hbw 1 (by have := H12.out; omega)
              obtain ⟨rfl, rfl⟩ : tb = tb2 ∧ toff = toff2 := by simpa using ee
              rw [h11.out] at c1
              have HRA1 := Hid.mk' (HRA.out wr.drew hbw.drew)
              have h1l : (1 : Int) < (to.length : Int) := by have := H12.out; omega
              clear ee
              go_wp2
              go_region_held3 (fun w' => (w'.cell? ⟨w.heap.size, 0, none⟩ = some (.slice (some ⟨b, off, none⟩) l.length cap) ∧ w'.cell? ⟨w.heap.size, 1, none⟩ = some vc ∧ w'.cell? ⟨w.heap.size, 2, none⟩ = some ve) ∧ w'.cell? ⟨w.heap.size + 1, 1, none⟩ = some (.slice (some ⟨tb, toff, none⟩) to.length tcap) ∧ w'.cell? ⟨tb, toff + 1, none⟩ = some (.int .i32 t1)) (first | exact ⟨⟨x0, x1, x2⟩, x3, c1⟩ | exact ⟨⟨z0, z1, z2⟩, z3, z4⟩ | go_keep) ((go_at_call 99; refine HRA1.out.mono ?_; rintro e w6 ⟨⟨x, rfl, hx⟩, hb6⟩; have hb6' := hb.drew.trans (hb6.mono hb.size); obtain ⟨⟨z0, z1, z2⟩, z3, hbw6⟩ := HE.out w6 hb6'; have z4 := (hb6.cell (p := ⟨tb, toff + 1, none⟩) (lt_of_cell c1)).trans c1))
              cases an
              · have HNA : Hid (¬ (to.length = 2 ∧ false = true)) := fun h => by cases h.2
                clear x0 x1 x2 x3 c1 z0 z1 z2 z3 z4
                go_wp2
                go_loopw [7, 8] (fun x y wr => ∃ (n : Nat) (z : Int), x = .int .i64 n ∧ y = .int .i64 z ∧ n ≤ 8 ∧ Hid ((z = -1 ∧ n = chainAt l (k0 + 1)) ∨ ∃ j : Nat, z = j ∧ j ≤ k0 + 1 ∧ n + chainAt l j = chainAt l (k0 + 1)) ∧ Below W1.heap.size W1 wr) (fun _ y _ => (intOf y + 1).toNat)
                case atStart => exact ⟨0, _, rfl, rfl, by omega, .inr ⟨k0 + 1, by first | rfl | omega, Nat.le_refl _, by omega⟩, hb6'⟩
                case round =>
                  obtain ⟨n, z, rfl, rfl, hn8, hz, hb7⟩ := hrel
                  obtain ⟨⟨y0, y1, y2⟩, -, hbw7⟩ := HE.out wr hb7
                  rcases hz.out with ⟨rfl, hn⟩ | ⟨j, rfl, hj, hn⟩
                  · have hres := Hid.mk' (hR0'.out hfm.out (fun h => by rcases h with h | h <;> first | omega | exact HNA.out h))
                    clear hz hn
                    go_wp2
                    go_ret
                    exact ⟨ret_int (by rw [hres.out]; rfl), hbw7⟩
                  · have hc1 : 1 ≤ chainAt l j := by unfold chainAt; omega
                    by_cases h8 : n = 8
                    · have hres := Hid.mk' (hR9'.out hfm.out (.inr (by omega)))
                      subst h8
                      clear hz hn hc1
                      go_wp2
                      go_ret
                      exact ⟨ret_int (by rw [hres.out]; rfl), hbw7⟩
                    · have HAj := Hid.mk' (HAC.out wr j hbw7 hj (by omega))
                      have hn8' : n + 1 ≤ 8 := by omega
                      have HN := Hid.mk' hn
                      clear hz hn hc1 h8 hres9
                      go_wp2_with fail
                      refine HAj.out.mono ?_
                      rintro e w8 ⟨⟨x, rfl, hx⟩, hb8⟩
                      have hb78 := hb7.trans (hb8.mono hb7.size)
                      have hz' : Hid ((x = -1 ∧ n + 1 = chainAt l (k0 + 1)) ∨ ∃ j : Nat, x = j ∧ j ≤ k0 + 1 ∧ n + 1 + chainAt l j = chainAt l (k0 + 1)) := by
                        have := HN.out
                        rcases hx with ⟨rfl, h⟩ | ⟨j', rfl, h1, h2⟩
                        · exact .inl ⟨rfl, by omega⟩
                        · exact .inr ⟨j', rfl, by omega, by omega⟩
                      have hxj : -1 ≤ x ∧ x < j := by
                        rcases hx with ⟨rfl, h⟩ | ⟨j', rfl, h1, h2⟩ <;> omega
                      clear hx
                      go_wp2
                      go_roundw
                      case rel => exact ⟨n + 1, x, by go_num, rfl, hn8', hz', hb78⟩
                      case measure => simp [intOf]; omega
              · have hres := Hid.mk' (hR9'.out hfm.out (.inl ⟨H12.out, rfl⟩))
                go_wp2
                go_ret
                exact ⟨ret_int (by rw [hres.out]; rfl), hbw6⟩
end Go.Proofs.YtlnehhfljjeifaaGreatDoor

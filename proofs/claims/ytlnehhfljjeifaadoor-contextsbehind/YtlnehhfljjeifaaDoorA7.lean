/-
  What is proved here: what Composes answers; what the laws' Same answers at equal runes.
-/
import Derived.Test.YtlnehhfljjeifaaDoorA5
namespace Go.Proofs.YtlnehhfljjeifaaDoor
open Go.RowKit

theorem any_of {l : List Int} {i : Nat} {x : Int} (hi : i < l.length) (h : l.getD i 0 = x) : (l.any fun y => y == x) = true := by
  rw [List.any_eq_true]
  refine ⟨l.getD i 0, ?_, by simpa using h⟩
  rw [List.getD, List.getElem?_eq_getElem hi]
  exact List.getElem_mem hi
theorem any_not {l : List Int} {x : Int} (h : ∀ i, i < l.length → l.getD i 0 ≠ x) : (l.any fun y => y == x) = false := by
  rw [List.any_eq_false]
  intro y hy
  obtain ⟨k, hk, rfl⟩ := List.mem_iff_getElem.1 hy
  have := h k hk
  rw [List.getD, List.getElem?_eq_getElem hk] at this
  simpa using this
set_option maxRecDepth 20000 in
set_option maxHeartbeats 4000000 in
theorem composes_any (vr vc ve : Value) (t : Nm) (i : Nat) (w : World) (hR : Rows4 w vr t.rows) (hC : Tab w vc t.cls) (hE : Runes w ve t.exc) (_hl : t.rows.length ≤ 2147483648) (hlc : t.cls.length ≤ 2147483648) (hle : t.exc.length ≤ 2147483648) (hm : Rises t.cls) (ha : Apart t.cls) (hx : ∀ i j, i < j → j < t.exc.length → t.exc.getD i 0 < t.exc.getD j 0) (hi : i < t.rows.length) :
    Calls Tryd.prog 43 #[.agg #[vr, vc, ve], .int .i64 i] w fun e w' => e = .returned (.bool (composesM t i)) ∧ Below w.heap.size w w' := by
  have hb0 : Below w.heap.size w (w.alloc (.cells #[vr, vc, ve] 26)) := (Below.refl _ w).alloc (Nat.le_refl _) _
  have HS : Hid (∀ W x, Below w.heap.size w W → _) := fun W x hb => seekRune_any ve t.exc x W (hE.below hb) hle (fun i j hij hj => by
    rcases Nat.eq_or_lt_of_le hij with rfl | g
    · exact Int.le_refl _
    · exact Int.le_of_lt (hx i j g hj))
  have HC : Hid (∀ W x, Below w.heap.size w W → _) := fun W x hb => class_any vr vc ve t.cls x W (hC.below hb) hlc hm ha
  have HA : Hid (∀ x y, Sought t.exc.length (fun i => t.exc.getD i 0) x y → (decide (y < 0) = !(t.exc.any fun z => z == x))) := fun x y h => by
    rcases h with ⟨k, rfl, hk, e⟩ | ⟨rfl, h⟩
    · rw [any_of hk e]; simp
    · rw [any_not h]; rfl
  have hcm : composesM t i = (decide ((rw_ t.rows i).to.length = 2) && !(t.exc.any fun x => x == (rw_ t.rows i).fr) && (classOf t.cls (rw_ t.rows i).fr == 0) && (classOf t.cls (rw_ t.rows i).to0 == 0)) := rfl
  obtain ⟨a, cap, rfl, hT⟩ := hR
  obtain ⟨ca, ccap, rfl, -⟩ := id hC
  obtain ⟨ea, ecap, rfl, -⟩ := id hE
  obtain ⟨b, off, tv, rfl, d0w, d1w, ta, tcap, rfl, hTo⟩ := hT i hi
  obtain ⟨W0, hW0⟩ : ∃ W0, w.alloc (.cells #[.slice (some ⟨b, off, none⟩) t.rows.length cap, .slice ca t.cls.length ccap, .slice ea t.exc.length ecap] 26) = W0 := ⟨_, rfl⟩
  have e0 : W0.cell? ⟨w.heap.size, 0, none⟩ = some (.slice (some ⟨b, off, none⟩) t.rows.length cap) := by rw [← hW0, World.cell?_alloc_new]; rfl
  have e1 : W0.cell? ⟨w.heap.size, 1, none⟩ = some (.slice ca t.cls.length ccap) := by rw [← hW0, World.cell?_alloc_new]; rfl
  have e2 : W0.cell? ⟨w.heap.size, 2, none⟩ = some (.slice ea t.exc.length ecap) := by rw [← hW0, World.cell?_alloc_new]; rfl
  rw [hW0] at hb0
  have d0 := (hb0.cell (p := ⟨b, off + i * 2, none⟩) (lt_of_cell d0w)).trans d0w
  have d1 := (hb0.cell (p := ⟨b, off + i * 2 + 1, none⟩) (lt_of_cell d1w)).trans d1w
  have hil : (i : Int) < (t.rows.length : Int) := by omega
  have hi0 : ¬ ((i : Int) < 0) := by omega
  have HE : Hid (∀ W, Below W0.heap.size W0 W → W.cell? ⟨w.heap.size, 0, none⟩ = some (.slice (some ⟨b, off, none⟩) t.rows.length cap) ∧ W.cell? ⟨w.heap.size, 1, none⟩ = some (.slice ca t.cls.length ccap) ∧ W.cell? ⟨w.heap.size, 2, none⟩ = some (.slice ea t.exc.length ecap)) := fun W hb => ⟨(hb.cell (lt_of_cell e0)).trans e0, (hb.cell (lt_of_cell e1)).trans e1, (hb.cell (lt_of_cell e2)).trans e2⟩
  clear hT hC hE hm ha hx d0w d1w
  by_cases h2 : (rw_ t.rows i).to.length = 2
  · obtain ⟨tb, toff, rfl, c0w⟩ := hTo 0 (by omega)
    have c0 := (hb0.cell (p := ⟨tb, toff + 0, none⟩) (lt_of_cell c0w)).trans c0w
    rw [Nat.add_zero] at c0
    rw [decide_eq_true h2] at hcm
    rw [h2] at d1
    have h00 : Hid ((rw_ t.rows i).to.getD 0 0 = (rw_ t.rows i).to0) := rfl
    rw [h00.out] at c0
    clear hTo h00 c0w
    have H2 := Hid.mk' h2
    clear h2
    generalize (rw_ t.rows i).to0 = t0 at *
    generalize (rw_ t.rows i).fr = fr at *
    generalize composesM t i = res at *
    have HSf : Hid (∀ W, Below w.heap.size w W → _) := fun W hb => HS.out W fr hb
    have HAf : Hid (∀ y, _ → _) := fun y h => HA.out fr y h
    have HCf : Hid (∀ W, Below w.heap.size w W → _) := fun W hb => HC.out W fr hb
    have HCt : Hid (∀ W, Below w.heap.size w W → _) := fun W hb => HC.out W t0 hb
    clear HS HA HC
    generalize (t.exc.any fun x => x == fr) = an at *
    generalize classOf t.cls fr = cf at *
    generalize classOf t.cls t0 = ct at *
    go_enter Tryd.func43, Tryd.ntmps43
    go_wp2
    go_region
    have HS1 := Hid.mk' (HSf.out W0.drew hb0.drew)
    clear d0 d1 c0
    go_wp2_with fail
    refine HS1.out.mono ?_
    rintro e w1 ⟨⟨y, rfl, hy⟩, hb1⟩
    have hyd := HAf.out y hy
    clear hy HS1 HSf HAf
    obtain ⟨k0, k1, k2⟩ := HE.out w1 (Below.trans (Below.refl _ _).drew hb1)
    have hbw1 : Below w.heap.size w w1 := hb0.drew.trans (hb1.mono hb0.size)
    have HC1 := Hid.mk' (HCf.out w1 hbw1)
    clear HCf e0 e1 e2
    cases an
    · rw [Bool.not_false] at hyd
      have HE1 : Hid (∀ W, Below w1.heap.size w1 W → W.cell? ⟨w.heap.size, 0, none⟩ = some (.slice (some ⟨b, off, none⟩) t.rows.length cap) ∧ W.cell? ⟨w.heap.size, 1, none⟩ = some (.slice ca t.cls.length ccap) ∧ W.cell? ⟨w.heap.size, 2, none⟩ = some (.slice ea t.exc.length ecap)) := fun W hb => ⟨(hb.cell (lt_of_cell k0)).trans k0, (hb.cell (lt_of_cell k1)).trans k1, (hb.cell (lt_of_cell k2)).trans k2⟩
      go_wp2_with fail
      refine HC1.out.mono ?_
      rintro e w2 ⟨rfl, hb2⟩
      obtain ⟨m0, m1, m2⟩ := HE1.out w2 hb2
      have hbw2 : Below w.heap.size w w2 := hbw1.trans (hb2.mono hbw1.size)
      have HC2 := Hid.mk' (HCt.out w2 hbw2)
      clear k0 k1 k2 HE1 HE HC1 HCt
      cases hcf : (cf == 0)
      · rw [hcf] at hcm
        go_wp2
        go_ret
        exact ⟨ret_bool (by rw [hcm]; simp), hbw2⟩
      · rw [hcf] at hcm
        go_wp2_with fail
        refine HC2.out.mono ?_
        rintro e w3 ⟨rfl, hb3⟩
        go_wp2
        go_ret
        exact ⟨ret_bool (by rw [hcm]; simp), hbw2.trans (hb3.mono hbw2.size)⟩
    · rw [Bool.not_true] at hyd
      clear HC1 HE HCt
      go_wp2
      go_ret
      exact ⟨ret_bool (by rw [hcm]; simp), hbw1⟩
  · rw [decide_eq_false h2] at hcm
    have h2i : ((((rw_ t.rows i).to.length : Int)) != 2) = true := by simp; omega
    have H2 := Hid.mk' h2
    clear h2 hTo HS HA HC HE
    go_enter Tryd.func43, Tryd.ntmps43
    go_wp2
    go_ret
    exact ⟨ret_bool (by first | rfl | (rw [hcm]; rfl)), hb0⟩
end Go.Proofs.YtlnehhfljjeifaaDoor

/-
  What is proved here: what the reference's One answers at a norm whose rows are right.
-/
import Derived.Test.YtoceaielclomcaaRRGreatDoorE1
namespace Go.Proofs.YtoceaielclomcaaRRGreatDoor
open Go.RowKit

theorem one_less (l : List Rw) (x : Int) (i n : Nat) (hin : i ≤ n) (h : ∀ j, i ≤ j → j < n → (rw_ l j).fr ≠ x) : oneIn l n x = oneIn l i x := by
  induction n with
  | zero =>
    obtain rfl : i = 0 := by omega
    rfl
  | succ n ih =>
    rcases Nat.eq_or_lt_of_le hin with rfl | g
    · rfl
    · rw [oneIn_succ, if_neg (h n (by omega) (by omega))]
      exact ih (by omega) fun j h1 h2 => h j h1 (by omega)
theorem one_len (l : List Rw) (h2 : ∀ i, i < l.length → (rw_ l i).to.length ≤ 2) (k : Nat) (r : Int) (hk : k ≤ l.length) : (oneIn l k r).length ≤ k + 1 := by
  induction k generalizing r with
  | zero => simp [oneIn]
  | succ k ih =>
    rw [oneIn_succ]
    split
    · have := ih (rw_ l k).to0 (by omega)
      have := h2 k (by omega)
      simp only [List.length_append, List.length_drop]
      omega
    · have := ih r (by omega)
      omega
theorem row_len {l : List Rw} (hc : ∀ i, i < l.length → rowCode l i = 0) : ∀ i, i < l.length → (rw_ l i).to.length = 1 ∨ (rw_ l i).to.length = 2 := fun i hi => (formed_parts (rowCode_zero (hc i hi)).2.2.1).1
theorem oneM_len {l : List Rw} (hc : ∀ i, i < l.length → rowCode l i = 0) (r : Int) : (oneM l r).length ≤ l.length + 3 := by
  unfold oneM
  split
  · unfold sylM
    split <;> simp
  · have := one_len l (fun i hi => by have := row_len hc i hi; omega) l.length r (Nat.le_refl _)
    omega
theorem row_less {l : List Rw} (hc : ∀ i, i < l.length → rowCode l i = 0) {i : Nat} (hi : i < l.length) : ∀ j, i ≤ j → j < l.length → (rw_ l j).fr ≠ (rw_ l i).to0 := fun j h1 h2 => by
  have h3 := (formed_parts (rowCode_zero (hc i hi)).2.2.1).2.1
  rcases Nat.eq_or_lt_of_le h1 with rfl | g
  · omega
  · have := rise_of hc i j g h2
    omega
theorem oneM_row {l : List Rw} (hc : ∀ i, i < l.length → rowCode l i = 0) {i : Nat} (hi : i < l.length) {r : Int} (hs : isSyl r = false) (e : (rw_ l i).fr = r) : oneM l r = oneM l (rw_ l i).to0 ++ (rw_ l i).to.drop 1 := by
  have hns : isSyl (rw_ l i).to0 = false := hang_syl (may_right (formed_parts (rowCode_zero (hc i hi)).2.2.1).2.2.1).2
  unfold oneM
  rw [hs, hns]
  simp only [Bool.false_eq_true, if_false]
  rw [one_hit l l.length i r hi (rise_of hc) e, one_less l _ i l.length (by omega) (row_less hc hi)]
theorem oneM_none {l : List Rw} {r : Int} (hs : isSyl r = false) (h : ∀ i, i < l.length → (rw_ l i).fr ≠ r) : oneM l r = [r] := by
  unfold oneM
  rw [hs]
  simp only [Bool.false_eq_true, if_false]
  exact one_miss l _ r h
theorem drop_two {x : Rw} (h2 : x.to.length = 2) : x.to.drop 1 = [x.to1] := by
  obtain ⟨q0, q1, hq⟩ : ∃ q0 q1, x.to = [q0, q1] := by
    match x.to, h2 with
    | [q0, q1], _ => exact ⟨q0, q1, rfl⟩
  unfold Rw.to1; rw [hq]; rfl
set_option maxRecDepth 20000 in
set_option maxHeartbeats 4000000 in
theorem refOne_syl (vr vc ve : Value) (l : List Rw) (r : Int) (w : World) (hT : Rows4 w vr l) (h1 : 44032 ≤ r) (h2 : r ≤ 55203) :
    Calls Tryz.prog 103 #[.agg #[vr, vc, ve], .int .i32 r] w fun e w' => ∃ v, e = .returned v ∧ w'.ownsRow w.heap.size 21 1 v (sylM r).length ((sylM r).map (Value.int .i32)) ∧ Below w.heap.size w w' := by
  obtain ⟨i0, hi, hz0, hz1, hz2⟩ := info_parts Tryz.infoRune
  obtain ⟨W0, hW0, hsz, hb0, e0, e1, e2⟩ := norm_box w vr vc ve
  obtain ⟨n, rfl⟩ : ∃ n, r = n + 44032 := ⟨r - 44032, by omega⟩
  have n0 : 0 ≤ n := by omega
  have n1 : n ≤ 11171 := by omega
  obtain ⟨x, hx⟩ : ∃ x, n / 588 = x := ⟨_, rfl⟩
  obtain ⟨y, hy⟩ : ∃ y, n / 28 % 21 = y := ⟨_, rfl⟩
  obtain ⟨z, hz⟩ : ∃ z, n % 28 = z := ⟨_, rfl⟩
  have hS : Hid (sylM (n + 44032) = [4352 + x, 4449 + y] ++ (if z = 0 then [] else [4519 + z])) := by
    show _ = _
    unfold sylM
    rw [show n + 44032 - 44032 = n by omega, hz, hy, hx]
  have x0 : 0 ≤ x := by omega
  have x1 : x < 19 := by omega
  have y0 : 0 ≤ y := by omega
  have y1 : y < 21 := by omega
  have z0 : 0 ≤ z := by omega
  have z1 : z < 28 := by omega
  obtain ⟨a, cap, rfl, -⟩ := hT
  generalize sylM (n + 44032) = res at *
  have HO := Hid.mk' (own_new W0 (w.heap.size + 1) [.int .i32 (4352 + x), .int .i32 (4449 + y)] 21 (by omega) (by simp [maxLen]))
  by_cases hzz : z = 0
  · rw [if_pos hzz] at hS
    have hzd : decide (0 < z) = false := by simp; omega
    clear hzz
    go_enter Tryz.func103, Tryz.ntmps103
    go_wp2
    go_ret
    refine ⟨_, rfl, ?_, hb0.alloc hb0.size _⟩
    rw [hS.out]
    have := own_weaken (B := w.heap.size) HO.out (by omega)
    rw [hsz] at this
    exact this
  · rw [if_neg hzz] at hS
    have hzd : decide (0 < z) = true := by simp; omega
    obtain ⟨W1, hW1⟩ : ∃ W1, W0.alloc (.cells #[.int .i32 (4352 + x), .int .i32 (4449 + y)] 21) = W1 := ⟨_, rfl⟩
    have hsz1 : W1.heap.size = w.heap.size + 2 := by rw [← hW1, World.size_alloc, hsz]
    have hb1 : Below w.heap.size w W1 := by rw [← hW1]; exact hb0.alloc hb0.size _
    have HO1 : Hid (W1.ownsRow (w.heap.size + 1) 21 1 (.slice (some ⟨w.heap.size + 1, 0, none⟩) 2 2) 2 [.int .i32 (4352 + x), .int .i32 (4449 + y)]) := by
      have := HO.out
      rw [hsz] at this
      rw [← hW1]
      exact this
    clear hzz HO
    go_enter Tryz.func103, Tryz.ntmps103
    go_wp2_with (at_builtin; (refine wpList_append_own _ rfl _ _ 37 rfl (w.heap.size + 1) 21 i0 (.int .i32 0) 1 4 Tryz.underlying37 hi hz0 hz1 hz2 rfl (by decide) _ _ _ rfl (HO1.out.alloc _) ⟨w.heap.size + 2, 0, none⟩ 1 1 [.int .i32 (4519 + z)] rfl rfl (by have := cell_one_new W1 (.int .i32 (4519 + z)) 21; rw [hsz1] at this; exact this) (by intro u hu; simp at hu; subst hu; rfl) (by unfold maxLen; simp) (by simp) (by simp; omega) ?_; intro v' w2 hown' hgrow _))
    go_ret
    refine ⟨_, rfl, ?_, ?_⟩
    · rw [hS.out]
      exact own_weaken (by simpa using hown') (Nat.le_succ _)
    · exact (hb1.alloc hb1.size _).grown hgrow (by simp; omega) (fun j hj => by have := (HO1.out.lt j hj).1; omega)
set_option maxRecDepth 20000 in
set_option maxHeartbeats 8000000 in
theorem refOne_ind (vr vc ve : Value) (l : List Rw) (hl : l.length ≤ 2000) (hc : ∀ i, i < l.length → rowCode l i = 0) : ∀ (k : Nat) (r : Int) (w : World), Rows4 w vr l → (∀ i, i < l.length → (rw_ l i).fr = r → i < k) →
    Calls Tryz.prog 103 #[.agg #[vr, vc, ve], .int .i32 r] w fun e w' => ∃ v, e = .returned v ∧ w'.ownsRow w.heap.size 21 1 v (oneM l r).length ((oneM l r).map (Value.int .i32)) ∧ Below w.heap.size w w' := by
  intro k
  induction k using Nat.strongRecOn with
  | ind k ih =>
    intro r w hT hk
    by_cases hs : 44032 ≤ r ∧ r ≤ 55203
    · have e1 : oneM l r = sylM r := by unfold oneM isSyl; rw [decide_eq_true hs]; rfl
      rw [e1]
      exact refOne_syl vr vc ve l r w hT hs.1 hs.2
    · have hns : isSyl r = false := by unfold isSyl; exact decide_eq_false hs
      obtain ⟨i0, hi, hz0, hz1, hz2⟩ := info_parts Tryz.infoRune
      obtain ⟨W0, hW0, hsz, hb0, e0, e1, e2⟩ := norm_box w vr vc ve
      have HRW := Hid.mk' (refRow_any vr vc ve l r W0 (hT.below hb0) (by omega))
      have HIH : Hid (∀ i, i < l.length → (rw_ l i).fr = r → ∀ W, Below w.heap.size w W → Calls Tryz.prog 103 #[.agg #[vr, vc, ve], .int .i32 (rw_ l i).to0] W fun e w' => ∃ v, e = .returned v ∧ w'.ownsRow W.heap.size 21 1 v (oneM l (rw_ l i).to0).length ((oneM l (rw_ l i).to0).map (Value.int .i32)) ∧ Below W.heap.size W w') := fun i hi he W hb => by
        refine ih i (hk i hi he) (rw_ l i).to0 W (hT.below hb) (fun j hj hej => ?_)
        rcases Nat.lt_or_ge j i with g | g
        · exact g
        · exact absurd hej (row_less hc hi j g hj)
      have HR : Hid (∀ i, i < l.length → (rw_ l i).fr = r → oneM l r = oneM l (rw_ l i).to0 ++ (rw_ l i).to.drop 1) := fun i hi he => oneM_row hc hi hns he
      have HN : Hid ((∀ i, i < l.length → (rw_ l i).fr ≠ r) → oneM l r = [r]) := fun h => oneM_none hns h
      have HL : Hid (∀ i, i < l.length → (rw_ l i).to.length = 1 ∨ (rw_ l i).to.length = 2) := row_len hc
      have HLE : Hid (∀ x, (oneM l x).length ≤ l.length + 3) := fun x => oneM_len hc x
      have hT0 := hT.below hb0
      obtain ⟨a, cap, rfl, hTj⟩ := hT0
      have HTJ : Hid (∀ j, j < l.length → _) := fun j hj => hTj j hj
      have HEE : Hid (∀ W, Below W0.heap.size W0 W → (W.cell? ⟨w.heap.size, 0, none⟩ = some (.slice a l.length cap) ∧ W.cell? ⟨w.heap.size, 1, none⟩ = some vc ∧ W.cell? ⟨w.heap.size, 2, none⟩ = some ve) ∧ Below w.heap.size w W) := fun W hb => ⟨⟨(hb.cell (lt_of_cell e0)).trans e0, (hb.cell (lt_of_cell e1)).trans e1, (hb.cell (lt_of_cell e2)).trans e2⟩, hb0.trans (hb.mono hb0.size)⟩
      generalize oneM l r = res at *
      have hsd : decide (44032 ≤ r) = false ∨ (decide (44032 ≤ r) = true ∧ decide (r ≤ 55203) = false) := by
        by_cases h : 44032 ≤ r
        · right; simp; omega
        · left; simpa using h
      have HNS := Hid.mk' hs
      clear hT hTj ih hk hc hs hns
      rcases hsd with hsd | ⟨hsd, hsd'⟩
      all_goals
        go_enter Tryz.func103, Tryz.ntmps103
        go_wp2_with fail
        refine HRW.out.mono ?_
        rintro e w1 ⟨⟨x, rfl, hx⟩, hb1⟩
        obtain ⟨⟨x0, x1, x2⟩, hbw1⟩ := HEE.out w1 hb1
        clear e0 e1 e2 HRW
        rcases hx with ⟨i, rfl, hil, hfr⟩ | ⟨rfl, hno⟩
        · have hres := Hid.mk' (HR.out i hil hfr)
          have HI1 := Hid.mk' (HIH.out i hil hfr w1.drew hbw1.drew)
          have hll := HLE.out (rw_ l i).to0
          obtain ⟨b, off, tv, rfl, -, d1w, ta, tcap, rfl, hTo⟩ := HTJ.out i hil
          have d1 := (hb1.cell (p := ⟨b, off + i * 2 + 1, none⟩) (lt_of_cell d1w)).trans d1w
          have h12 := HL.out i hil
          obtain ⟨tb, toff, rfl, c0w⟩ := hTo 0 (by omega)
          rw [Nat.add_zero] at c0w
          have h00 : Hid ((rw_ l i).to.getD 0 0 = (rw_ l i).to0) := rfl
          rw [h00.out] at c0w
          have c0 := (hb1.cell (p := ⟨tb, toff, none⟩) (lt_of_cell c0w)).trans c0w
          have h11 : Hid ((rw_ l i).to.getD 1 0 = (rw_ l i).to1) := rfl
          have HC1 : Hid ((rw_ l i).to.length = 2 → ∀ W, Below W0.heap.size W0 W → W.cell? ⟨tb, toff + 1, none⟩ = some (.int .i32 (rw_ l i).to1)) := fun h2 W hb => by
            obtain ⟨tb2, toff2, ee, c1w⟩ := hTo 1 (by omega)
            obtain ⟨rfl, rfl⟩ : tb = tb2 ∧ toff = toff2 := by simpa using ee
            rw [← h11.out]
            exact (hb.cell (p := ⟨tb, toff + 1, none⟩) (lt_of_cell c1w)).trans c1w
          have HD1 : Hid (∀ W, Below W0.heap.size W0 W → W.cell? ⟨b, off + i * 2 + 1, none⟩ = some (.slice (some ⟨tb, toff, none⟩) (rw_ l i).to.length tcap) ∧ W.cell? ⟨tb, toff, none⟩ = some (.int .i32 (rw_ l i).to0)) := fun W hb => ⟨(hb.cell (p := ⟨b, off + i * 2 + 1, none⟩) (lt_of_cell d1w)).trans d1w, (hb.cell (p := ⟨tb, toff, none⟩) (lt_of_cell c0w)).trans c0w⟩
          have HDD : Hid ((rw_ l i).to.length = 2 → (rw_ l i).to.drop 1 = [(rw_ l i).to1]) := fun h => drop_two h
          have HDN : Hid ((rw_ l i).to.length = 1 → (rw_ l i).to.drop 1 = []) := fun h => List.drop_eq_nil_of_le (by omega)
          have hirl : (i : Int) < (l.length : Int) := by omega
          have htl : (0 : Int) < ((rw_ l i).to.length : Int) := by omega
          clear hTo d1w c0w hfr h00 h11 HIH HR HN HL HLE HTJ
          generalize oneM l (rw_ l i).to0 = pre at *
          generalize (rw_ l i).to0 = t0 at *
          generalize (rw_ l i).to1 = t1 at *
          generalize (rw_ l i).to = to at *
          generalize to.drop 1 = dr at *
          generalize to.length = tn at *
          rcases h12 with rfl | rfl
          · skip
            go_wp2
            go_region_held3 (fun w' => (w'.cell? ⟨w.heap.size, 0, none⟩ = some (.slice (some ⟨b, off, none⟩) l.length cap) ∧ w'.cell? ⟨w.heap.size, 1, none⟩ = some vc ∧ w'.cell? ⟨w.heap.size, 2, none⟩ = some ve) ∧ w'.cell? ⟨b, off + i * 2 + 1, none⟩ = some (.slice (some ⟨tb, toff, none⟩) 1 tcap) ∧ w'.cell? ⟨tb, toff, none⟩ = some (.int .i32 t0)) (first | exact ⟨⟨x0, x1, x2⟩, d1, c0⟩ | exact ⟨⟨z0, z1, z2⟩, z3, z4⟩ | go_keep) ((go_at_call 103; refine HI1.out.mono ?_; rintro e w3 ⟨v, rfl, ho, hb3⟩; obtain ⟨va, vcap, rfl⟩ := own_slice ho; have hb03 := hb1.drew.trans (hb3.mono hb1.size); obtain ⟨⟨z0, z1, z2⟩, hbw3⟩ := HEE.out w3 hb03; obtain ⟨z3, z4⟩ := HD1.out w3 hb03))
            have hszw : w.heap.size + 1 ≤ w1.heap.size := by have := hb1.size; omega
            have hs3 : w1.heap.size ≤ w3.heap.size := hb3.size
            have ho' : w3.ownsRow (w.heap.size + 1) 21 1 (.slice va pre.length vcap) pre.length (pre.map (Value.int .i32)) := own_weaken ho hszw
            clear x0 x1 x2 d1 c0 HI1 ho
            have hdr := HDN.out (by trivial)
            have HO := Hid.mk' ho'
            clear ho' HC1 HD1 HDD HDN
            go_wp2
            go_ret
            refine ⟨_, rfl, ?_, hbw3⟩
            rw [hres.out, hdr, List.append_nil]
            exact own_weaken HO.out (Nat.le_succ _)
          · skip
            go_wp2
            go_region_held3 (fun w' => (w'.cell? ⟨w.heap.size, 0, none⟩ = some (.slice (some ⟨b, off, none⟩) l.length cap) ∧ w'.cell? ⟨w.heap.size, 1, none⟩ = some vc ∧ w'.cell? ⟨w.heap.size, 2, none⟩ = some ve) ∧ w'.cell? ⟨b, off + i * 2 + 1, none⟩ = some (.slice (some ⟨tb, toff, none⟩) 2 tcap) ∧ w'.cell? ⟨tb, toff, none⟩ = some (.int .i32 t0)) (first | exact ⟨⟨x0, x1, x2⟩, d1, c0⟩ | exact ⟨⟨z0, z1, z2⟩, z3, z4⟩ | go_keep) ((go_at_call 103; refine HI1.out.mono ?_; rintro e w3 ⟨v, rfl, ho, hb3⟩; obtain ⟨va, vcap, rfl⟩ := own_slice ho; have hb03 := hb1.drew.trans (hb3.mono hb1.size); obtain ⟨⟨z0, z1, z2⟩, hbw3⟩ := HEE.out w3 hb03; obtain ⟨z3, z4⟩ := HD1.out w3 hb03))
            have hszw : w.heap.size + 1 ≤ w1.heap.size := by have := hb1.size; omega
            have hs3 : w1.heap.size ≤ w3.heap.size := hb3.size
            have ho' : w3.ownsRow (w.heap.size + 1) 21 1 (.slice va pre.length vcap) pre.length (pre.map (Value.int .i32)) := own_weaken ho hszw
            clear x0 x1 x2 d1 c0 HI1 ho
            have hdr := Hid.mk' (HDD.out (by trivial))
            have c1 := HC1.out (by trivial) w3 hb03
            clear HC1 HD1 HDD HDN
            go_wp2_with (at_builtin; (refine wpList_append_own _ rfl _ _ 37 rfl (w.heap.size + 1) 21 i0 (.int .i32 0) 1 4 Tryz.underlying37 hi hz0 hz1 hz2 rfl (by decide) _ _ _ rfl (ho'.alloc _) ⟨w3.heap.size, 0, none⟩ 1 1 [.int .i32 t1] rfl rfl (cell_one_new _ _ _) (by intro u hu; simp at hu; subst hu; rfl) (by unfold maxLen; omega) (by omega) (by simp; omega) ?_; intro v' w4 hown' hgrow _))
            have hbw4 : Below w.heap.size w w4 := (hbw3.alloc hbw3.size _).grown hgrow (by simp; have := hbw3.size; omega) (fun j hj => by have := (ho'.lt j hj).1; omega)
            go_wp2
            go_ret
            refine ⟨_, rfl, ?_, hbw4⟩
            rw [hres.out, hdr.out]
            exact own_weaken (by simpa using hown') (Nat.le_succ _)
        · have hres := Hid.mk' (HN.out hno)
          have HO := Hid.mk' (own_new w1 w.heap.size [.int .i32 r] 21 hbw1.size (by simp [maxLen]))
          clear hno HIH HR HN HL HLE HTJ
          go_wp2
          go_ret
          refine ⟨_, rfl, ?_, hbw1.alloc hbw1.size _⟩
          rw [hres.out]
          exact HO.out
theorem refOne_any (vr vc ve : Value) (l : List Rw) (hl : l.length ≤ 2000) (hc : ∀ i, i < l.length → rowCode l i = 0) (r : Int) (w : World) (hT : Rows4 w vr l) :
    Calls Tryz.prog 103 #[.agg #[vr, vc, ve], .int .i32 r] w fun e w' => ∃ v, e = .returned v ∧ w'.ownsRow w.heap.size 21 1 v (oneM l r).length ((oneM l r).map (Value.int .i32)) ∧ Below w.heap.size w w' :=
  refOne_ind vr vc ve l hl hc l.length r w hT (fun _ h _ => h)
end Go.Proofs.YtoceaielclomcaaRRGreatDoor

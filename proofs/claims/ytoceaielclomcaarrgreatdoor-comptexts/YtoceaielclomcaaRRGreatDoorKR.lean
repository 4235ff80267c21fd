/-
  What is proved here: what the reference's Pair answers. · what the reference's Put answers. · what comp's All, Is and Same answer, and the reference's All. · what the laws of layer 5's awake answers.
-/
import Derived.Test.YtoceaielclomcaaRRGreatDoorKQ
import Derived.Test.YtoceaielclomcaaRRGreatDoorKE
import Derived.Test.YtoceaielclomcaaRRGreatDoorKB
import Derived.Test.YtoceaielclomcaaRRGreatDoorE0
import Derived.Test.YtoceaielclomcaaRRGreatDoorKS
import Derived.Test.YtoceaielclomcaaRRGreatDoorKT
namespace Go.Proofs.YtoceaielclomcaaRRGreatDoor
open Go.RowKit

theorem hit_not {t : Nm} {a b : Int} {k : Nat} (h : composesM t k = false) : rowHit t a b k = false := by
  unfold rowHit; rw [h]; rfl
set_option maxRecDepth 20000 in
set_option maxHeartbeats 8000000 in
theorem refPair_lv (vr vc ve : Value) (t : Nm) (a b : Int) (w : World) (h1 : 4352 ≤ a) (h2 : a ≤ 4370) (h3 : 4449 ≤ b) (h4 : b ≤ 4469) :
    Calls Tryz.prog 102 #[.agg #[vr, vc, ve], .int .i32 a, .int .i32 b] w fun e w' => e = .returned (.int .i32 ((pairM t a b).getD (-1))) ∧ Below w.heap.size w w' := by
  obtain ⟨W0, hW0, hsz, hb0, e0, e1, e2⟩ := norm_box w vr vc ve
  rw [pairM_syl (syl_lv h1 h2 h3 h4)]
  clear e0 e1 e2
  go_enter Tryz.func102, Tryz.ntmps102
  go_wp2
  go_loop [7] (fun y => ∃ (k : Nat) (rr : Int), y = .int .i32 rr ∧ Hid (rr = 44032 + 588 * k) ∧ k ≤ 19 ∧ Hid (4449 ≤ b ∧ b ≤ 4469 → (k : Int) ≤ a - 4352)) (fun y => (60000 - intOf y).toNat)
  case atStart => exact ⟨0, 44032, rfl, rfl, by omega, fun _ => by omega⟩
  case round =>
    obtain ⟨k, rr, rfl, hrr, hk, hkb⟩ := hrel
    have hr0 : 44032 ≤ rr := by have := hrr.out; omega
    by_cases hlt : k < 19
    · have hr1 : rr ≤ 55203 := by have := hrr.out; omega
      by_cases hq : (k : Int) = a - 4352
      · have hqb : (a == 4352 + (rr - 44032) / 588) = true := by have := hrr.out; rw [beq_iff_eq]; omega
        have HQ := Hid.mk' hq
        clear hq
        go_wp2
        go_loop [8] (fun y => ∃ v : Nat, y = .int .i32 v ∧ v ≤ 21 ∧ Hid (4449 ≤ b ∧ b ≤ 4469 → (v : Int) ≤ b - 4449)) (fun y => 21 - (intOf y).toNat)
        case atStart => exact ⟨0, rfl, by omega, fun _ => by omega⟩
        case round =>
          obtain ⟨v, rfl, hv, hvb⟩ := hrel
          by_cases hvl : v < 21
          · have hvz : (v : Int) < 21 := by omega
            have hv0 : (0 : Int) ≤ v := by omega
            by_cases hb' : b = 4449 + v
            · have hbb : (b == 4449 + (v : Int)) = true := by rw [beq_iff_eq]; exact hb'
              have HBV := Hid.mk' hb'
              clear hb'
              have hfin : rr + 28 * (v : Int) = 44032 + ((a - 4352) * 21 + b - 4449) * 28 := by have := hrr.out; have := HQ.out; have := HBV.out; omega
              have HF := Hid.mk' hfin
              clear hfin
              go_wp2
              go_ret
              exact ⟨ret_int HF.out, hb0⟩
            · have hbb : (b == 4449 + (v : Int)) = false := by rw [beq_eq_false_iff_ne]; exact hb'
              have hn : Hid (4449 ≤ b ∧ b ≤ 4469 → ((v + 1 : Nat) : Int) ≤ b - 4449) := fun h => by have := hvb.out h; omega
              clear hb'
              go_wp2
              go_round
              case rel => exact ⟨v + 1, by go_num, by omega, hn⟩
              case measure => simp [intOf]; omega
          · have hvz : ¬ (v : Int) < 21 := by omega
            have hn : Hid (4449 ≤ b ∧ b ≤ 4469 → ((k + 1 : Nat) : Int) ≤ a - 4352) := fun h => by have := hvb.out h; omega
            have hrn : Hid (rr + 588 = 44032 + 588 * ((k + 1 : Nat) : Int)) := by have := hrr.out; show _ = _; omega
            go_wp2
            go_round
            case rel => exact ⟨k + 1, rr + 588, rfl, hrn, by omega, hn⟩
            case measure => simp [intOf]; omega
      · have hqb : (a == 4352 + (rr - 44032) / 588) = false := by have := hrr.out; rw [beq_eq_false_iff_ne]; omega
        have HQ := Hid.mk' hq
        clear hq
        go_wp2
        go_loop [8] (fun y => ∃ v : Nat, y = .int .i32 v ∧ v ≤ 21) (fun y => 21 - (intOf y).toNat)
        case atStart => exact ⟨0, rfl, by omega⟩
        case round =>
          obtain ⟨v, rfl, hv⟩ := hrel
          by_cases hvl : v < 21
          · have hvz : (v : Int) < 21 := by omega
            have hv0 : (0 : Int) ≤ v := by omega
            go_wp2
            go_round
            case rel => exact ⟨v + 1, by go_num, by omega⟩
            case measure => simp [intOf]; omega
          · have hvz : ¬ (v : Int) < 21 := by omega
            have hn : Hid (4449 ≤ b ∧ b ≤ 4469 → ((k + 1 : Nat) : Int) ≤ a - 4352) := fun h => by have := hkb.out h; have := HQ.out; omega
            have hrn : Hid (rr + 588 = 44032 + 588 * ((k + 1 : Nat) : Int)) := by have := hrr.out; show _ = _; omega
            go_wp2
            go_round
            case rel => exact ⟨k + 1, rr + 588, rfl, hrn, by omega, hn⟩
            case measure => simp [intOf]; omega
    · have hr1 : ¬ rr ≤ 55203 := by have := hrr.out; omega
      have hr2 : rr ≤ 60000 := by have := hrr.out; omega
      exfalso
      have := hkb.out ⟨h3, h4⟩
      omega
set_option maxRecDepth 20000 in
set_option maxHeartbeats 8000000 in
theorem refPair_l (vr vc ve : Value) (t : Nm) (a b : Int) (w : World) (hR : Rows4 w vr t.rows) (hC : Tab w vc t.cls) (hE : Runes w ve t.exc) (hl : t.rows.length ≤ 2147483648) (hlc : t.cls.length ≤ 2147483648) (hle : t.exc.length ≤ 2147483648) (hs : sylPair a b = none) (h1 : 4352 ≤ a) (h2 : a ≤ 4370) :
    Calls Tryz.prog 102 #[.agg #[vr, vc, ve], .int .i32 a, .int .i32 b] w fun e w' => e = .returned (.int .i32 ((pairM t a b).getD (-1))) ∧ Below w.heap.size w w' := by
  obtain ⟨W0, hW0, hsz, hb0, e0, e1, e2⟩ := norm_box w vr vc ve
  have HCM : Hid (∀ W i, Below w.heap.size w W → i < t.rows.length → _) := fun W i hb hi => refComposes_any vr vc ve t i W (hR.below hb) (hC.below hb) (hE.below hb) hl hlc hle hi
  have HT : Hid (∀ W, Below w.heap.size w W → Rows4 W vr t.rows) := fun W hb => hR.below hb
  obtain ⟨ra, rcap, rfl, -⟩ := id hR
  obtain ⟨ca, ccap, rfl, -⟩ := id hC
  obtain ⟨ea, ecap, rfl, -⟩ := id hE
  have HEE : Hid (∀ W, Below (w.heap.size + 1) W0 W → (W.cell? ⟨w.heap.size, 0, none⟩ = some (.slice ra t.rows.length rcap) ∧ W.cell? ⟨w.heap.size, 1, none⟩ = some (.slice ca t.cls.length ccap) ∧ W.cell? ⟨w.heap.size, 2, none⟩ = some (.slice ea t.exc.length ecap)) ∧ Below w.heap.size w W) := fun W hb => ⟨⟨(hb.cell (p := ⟨w.heap.size, 0, none⟩) (Nat.lt_succ_self _)).trans e0, (hb.cell (p := ⟨w.heap.size, 1, none⟩) (Nat.lt_succ_self _)).trans e1, (hb.cell (p := ⟨w.heap.size, 2, none⟩) (Nat.lt_succ_self _)).trans e2⟩, hb0.trans (hb.mono (Nat.le_succ _))⟩
  clear hR hC hE
  have HROW : Hid (∀ k, k < t.rows.length → (∀ i, i < k → rowHit t a b i = false) → rowHit t a b k = true → pairM t a b = some (rw_ t.rows k).fr) := fun k hk h0 hh => pairM_row hs hk h0 hh
  have HNO : Hid ((∀ i, i < t.rows.length → rowHit t a b i = false) → pairM t a b = none) := fun h => pairM_none hs h
  have hV : Hid (¬ (4449 ≤ b ∧ b ≤ 4469)) := fun h => by rw [syl_lv h1 h2 h.1 h.2] at hs; cases hs
  clear hs
  generalize pairM t a b = res at *
  go_enter Tryz.func102, Tryz.ntmps102
  go_wp2
  go_loop [7] (fun y => ∃ (k : Nat) (rr : Int), y = .int .i32 rr ∧ Hid (rr = 44032 + 588 * k) ∧ k ≤ 19 ∧ Hid (4449 ≤ b ∧ b ≤ 4469 → (k : Int) ≤ a - 4352)) (fun y => (60000 - intOf y).toNat)
  case atStart => exact ⟨0, 44032, rfl, rfl, by omega, fun _ => by omega⟩
  case round =>
    obtain ⟨k, rr, rfl, hrr, hk, hkb⟩ := hrel
    have hr0 : 44032 ≤ rr := by have := hrr.out; omega
    by_cases hlt : k < 19
    · have hr1 : rr ≤ 55203 := by have := hrr.out; omega
      by_cases hq : (k : Int) = a - 4352
      · have hqb : (a == 4352 + (rr - 44032) / 588) = true := by have := hrr.out; rw [beq_iff_eq]; omega
        have HQ := Hid.mk' hq
        clear hq
        go_wp2
        go_loop [8] (fun y => ∃ v : Nat, y = .int .i32 v ∧ v ≤ 21 ∧ Hid (4449 ≤ b ∧ b ≤ 4469 → (v : Int) ≤ b - 4449)) (fun y => 21 - (intOf y).toNat)
        case atStart => exact ⟨0, rfl, by omega, fun _ => by omega⟩
        case round =>
          obtain ⟨v, rfl, hv, hvb⟩ := hrel
          by_cases hvl : v < 21
          · have hvz : (v : Int) < 21 := by omega
            have hv0 : (0 : Int) ≤ v := by omega
            by_cases hb' : b = 4449 + v
            · have hbb : (b == 4449 + (v : Int)) = true := by rw [beq_iff_eq]; exact hb'
              have HBV := Hid.mk' hb'
              clear hb'
              exfalso
              have := HBV.out
              exact hV.out ⟨by omega, by omega⟩
            · have hbb : (b == 4449 + (v : Int)) = false := by rw [beq_eq_false_iff_ne]; exact hb'
              have hn : Hid (4449 ≤ b ∧ b ≤ 4469 → ((v + 1 : Nat) : Int) ≤ b - 4449) := fun h => by have := hvb.out h; omega
              clear hb'
              go_wp2
              go_round
              case rel => exact ⟨v + 1, by go_num, by omega, hn⟩
              case measure => simp [intOf]; omega
          · have hvz : ¬ (v : Int) < 21 := by omega
            have hn : Hid (4449 ≤ b ∧ b ≤ 4469 → ((k + 1 : Nat) : Int) ≤ a - 4352) := fun h => by have := hvb.out h; omega
            have hrn : Hid (rr + 588 = 44032 + 588 * ((k + 1 : Nat) : Int)) := by have := hrr.out; show _ = _; omega
            go_wp2
            go_round
            case rel => exact ⟨k + 1, rr + 588, rfl, hrn, by omega, hn⟩
            case measure => simp [intOf]; omega
      · have hqb : (a == 4352 + (rr - 44032) / 588) = false := by have := hrr.out; rw [beq_eq_false_iff_ne]; omega
        have HQ := Hid.mk' hq
        clear hq
        go_wp2
        go_loop [8] (fun y => ∃ v : Nat, y = .int .i32 v ∧ v ≤ 21) (fun y => 21 - (intOf y).toNat)
        case atStart => exact ⟨0, rfl, by omega⟩
        case round =>
          obtain ⟨v, rfl, hv⟩ := hrel
          by_cases hvl : v < 21
          · have hvz : (v : Int) < 21 := by omega
            have hv0 : (0 : Int) ≤ v := by omega
            go_wp2
            go_round
            case rel => exact ⟨v + 1, by go_num, by omega⟩
            case measure => simp [intOf]; omega
          · have hvz : ¬ (v : Int) < 21 := by omega
            have hn : Hid (4449 ≤ b ∧ b ≤ 4469 → ((k + 1 : Nat) : Int) ≤ a - 4352) := fun h => by have := hkb.out h; have := HQ.out; omega
            have hrn : Hid (rr + 588 = 44032 + 588 * ((k + 1 : Nat) : Int)) := by have := hrr.out; show _ = _; omega
            go_wp2
            go_round
            case rel => exact ⟨k + 1, rr + 588, rfl, hrn, by omega, hn⟩
            case measure => simp [intOf]; omega
    · have hr1 : ¬ rr ≤ 55203 := by have := hrr.out; omega
      have hr2 : rr ≤ 60000 := by have := hrr.out; omega
      go_wp2
      go_loopw [9] (fun y wr => ∃ k : Nat, y = .int .i64 k ∧ k ≤ t.rows.length ∧ Hid (∀ i, i < k → rowHit t a b i = false) ∧ Hid (Below (w.heap.size + 1) W0 wr)) (fun y _ => t.rows.length - (intOf y).toNat)
      case atStart => exact ⟨0, rfl, Nat.zero_le _, fun i hi => by omega, by rw [← hsz]; exact Below.refl _ _⟩
      case round =>
        clear e0 e1 e2
        obtain ⟨k, rfl, hk, h0, HB⟩ := hrel
        obtain ⟨⟨x0, x1, x2⟩, hbw⟩ := HEE.out wr HB.out
        have hszr : w.heap.size + 1 ≤ wr.heap.size := by have := HB.out.size; omega
        by_cases hlt : k < t.rows.length
        · have hklz : (k : Int) < (t.rows.length : Int) := by omega
          have HCk := Hid.mk' (HCM.out wr k hbw hlt)
          cases hcm : composesM t k
          · rw [hcm] at HCk
            have hnx := Hid.mk' (noHit_next h0.out (hit_not (a := a) (b := b) hcm))
            clear hcm
            go_wp2_with fail
            refine HCk.out.mono ?_
            rintro e w2 ⟨rfl, hb2⟩
            have HB2 : Hid (Below (w.heap.size + 1) W0 w2) := HB.out.trans (hb2.mono (by omega))
            go_wp2
            go_roundw
            case rel => exact ⟨k + 1, by go_num, by omega, hnx, HB2⟩
            case measure => simp [intOf]; omega
          · have h2 := comp_two hcm
            rw [hcm] at HCk
            have hN0 : Hid ((rw_ t.rows k).to0 ≠ a → ∀ i, i < k + 1 → rowHit t a b i = false) := fun h => noHit_next h0.out (hit_to0 h)
            have hN1 : Hid ((rw_ t.rows k).to1 ≠ b → ∀ i, i < k + 1 → rowHit t a b i = false) := fun h => noHit_next h0.out (hit_to1 h)
            have hY : Hid ((rw_ t.rows k).to0 = a → (rw_ t.rows k).to1 = b → res = some (rw_ t.rows k).fr) := fun h h' => HROW.out k hlt h0.out ((hit_comp h h').trans hcm)
            have HTk : Hid (∀ W, Below w.heap.size w W → Rows4 W (.slice ra t.rows.length rcap) t.rows) := HT
            clear hcm h0
            go_wp2_with fail
            refine HCk.out.mono ?_
            rintro e w2 ⟨rfl, hb2⟩
            have HB2 : Hid (Below (w.heap.size + 1) W0 w2) := HB.out.trans (hb2.mono (by omega))
            obtain ⟨⟨y0, y1, y2⟩, hbw2⟩ := HEE.out w2 HB2.out
            obtain ⟨ra', rcap', ee, hTj⟩ := HTk.out w2 hbw2
            obtain ⟨rfl, rfl⟩ : ra = ra' ∧ rcap = rcap' := by simpa using ee
            obtain ⟨rb, off, tv, rfl, d0, d1, ta, tcap, rfl, hRt⟩ := hTj k hlt
            obtain ⟨tb, toff, rfl, c0⟩ := hRt 0 (by omega)
            obtain ⟨tb2, toff2, ee2, c1⟩ := hRt 1 (by omega)
            obtain ⟨rfl, rfl⟩ : tb = tb2 ∧ toff = toff2 := by simpa using ee2
            rw [Nat.add_zero] at c0
            rw [h2] at d1
            have c0' : w2.cell? ⟨tb, toff, none⟩ = some (.int .i32 (rw_ t.rows k).to0) := c0
            have c1' : w2.cell? ⟨tb, toff + 1, none⟩ = some (.int .i32 (rw_ t.rows k).to1) := c1
            clear ee ee2 hTj hRt c0 c1 h2 x0 x1 x2 HCk hb2 hbw
            generalize (rw_ t.rows k).to0 = t0 at *
            generalize (rw_ t.rows k).to1 = t1 at *
            generalize (rw_ t.rows k).fr = fr at *
            by_cases g0 : t0 = a
            · by_cases g1 : t1 = b
              · have b0 : (t0 == a) = true := by simp [g0]
                have b1 : (t1 == b) = true := by simp [g1]
                have hres := hY.out g0 g1
                clear g0 g1 hN0 hN1 hY
                subst hres
                go_wp2
                go_ret
                exact ⟨rfl, hbw2⟩
              · have b0 : (t0 == a) = true := by simp [g0]
                have b1 : (t1 == b) = false := by simp [g1]
                have hnx := Hid.mk' (hN1.out g1)
                clear g0 g1 hN0 hN1 hY
                go_wp2
                go_roundw
                case rel => exact ⟨k + 1, by go_num, by omega, hnx, HB2⟩
                case measure => simp [intOf]; omega
            · have b0 : (t0 == a) = false := by simp [g0]
              have hnx := Hid.mk' (hN0.out g0)
              clear g0 hN0 hN1 hY
              go_wp2
              go_roundw
              case rel => exact ⟨k + 1, by go_num, by omega, hnx, HB2⟩
              case measure => simp [intOf]; omega
        · obtain rfl : k = t.rows.length := by omega
          have hres := HNO.out h0.out
          subst hres
          go_wp2
          go_ret
          exact ⟨rfl, hbw⟩
set_option maxRecDepth 20000 in
set_option maxHeartbeats 8000000 in
theorem refPair_t (vr vc ve : Value) (t : Nm) (a b : Int) (w : World) (he : endlessM a = true) (h3 : 4520 ≤ b) (h4 : b ≤ 4546) :
    Calls Tryz.prog 102 #[.agg #[vr, vc, ve], .int .i32 a, .int .i32 b] w fun e w' => e = .returned (.int .i32 ((pairM t a b).getD (-1))) ∧ Below w.heap.size w w' := by
  obtain ⟨W0, hW0, hsz, hb0, e0, e1, e2⟩ := norm_box w vr vc ve
  rw [pairM_syl (syl_t he h3 h4)]
  unfold endlessM at he
  rw [decide_eq_true_eq] at he
  obtain ⟨q1, q2, q3⟩ := he
  have q4 : ((a - 44032) % 28 == 0) = true := by rw [beq_iff_eq]; exact q3
  have q5 : ¬ a ≤ 4370 := by omega
  clear e0 e1 e2 q3
  go_enter Tryz.func102, Tryz.ntmps102
  go_wp2
  go_loop [7] (fun y => y = .int .i32 44032) (fun _ => 0)
  case atStart => rfl
  case round =>
    subst hrel
    go_wp2
    go_ret
    exact ⟨ret_int (by first | omega | (simp; omega)), hb0⟩
set_option maxRecDepth 20000 in
set_option maxHeartbeats 8000000 in
theorem refPair_o (vr vc ve : Value) (t : Nm) (a b : Int) (w : World) (hR : Rows4 w vr t.rows) (hC : Tab w vc t.cls) (hE : Runes w ve t.exc) (hl : t.rows.length ≤ 2147483648) (hlc : t.cls.length ≤ 2147483648) (hle : t.exc.length ≤ 2147483648) (hs : sylPair a b = none) (h0 : a < 4352 ∨ 4370 < a) :
    Calls Tryz.prog 102 #[.agg #[vr, vc, ve], .int .i32 a, .int .i32 b] w fun e w' => e = .returned (.int .i32 ((pairM t a b).getD (-1))) ∧ Below w.heap.size w w' := by
  obtain ⟨W0, hW0, hsz, hb0, e0, e1, e2⟩ := norm_box w vr vc ve
  have hno : endlessM a = false ∨ b < 4520 ∨ 4546 < b := by
    cases he : endlessM a
    · exact .inl rfl
    · by_cases g : 4520 ≤ b ∧ b ≤ 4546
      · rw [syl_t he g.1 g.2] at hs; cases hs
      · exact .inr (by omega)
  have HNOT : Hid (¬ (44032 ≤ a ∧ a ≤ 55203 ∧ (a - 44032) % 28 = 0 ∧ 4520 ≤ b ∧ b ≤ 4546)) := by
    unfold endlessM at hno
    rw [decide_eq_false_iff_not] at hno
    exact fun h => by omega
  have HL := Hid.mk' h0
  clear hno h0
  have HCM : Hid (∀ W i, Below w.heap.size w W → i < t.rows.length → _) := fun W i hb hi => refComposes_any vr vc ve t i W (hR.below hb) (hC.below hb) (hE.below hb) hl hlc hle hi
  have HT : Hid (∀ W, Below w.heap.size w W → Rows4 W vr t.rows) := fun W hb => hR.below hb
  obtain ⟨ra, rcap, rfl, -⟩ := id hR
  obtain ⟨ca, ccap, rfl, -⟩ := id hC
  obtain ⟨ea, ecap, rfl, -⟩ := id hE
  have HEE : Hid (∀ W, Below (w.heap.size + 1) W0 W → (W.cell? ⟨w.heap.size, 0, none⟩ = some (.slice ra t.rows.length rcap) ∧ W.cell? ⟨w.heap.size, 1, none⟩ = some (.slice ca t.cls.length ccap) ∧ W.cell? ⟨w.heap.size, 2, none⟩ = some (.slice ea t.exc.length ecap)) ∧ Below w.heap.size w W) := fun W hb => ⟨⟨(hb.cell (p := ⟨w.heap.size, 0, none⟩) (Nat.lt_succ_self _)).trans e0, (hb.cell (p := ⟨w.heap.size, 1, none⟩) (Nat.lt_succ_self _)).trans e1, (hb.cell (p := ⟨w.heap.size, 2, none⟩) (Nat.lt_succ_self _)).trans e2⟩, hb0.trans (hb.mono (Nat.le_succ _))⟩
  clear hR hC hE
  have HROW : Hid (∀ k, k < t.rows.length → (∀ i, i < k → rowHit t a b i = false) → rowHit t a b k = true → pairM t a b = some (rw_ t.rows k).fr) := fun k hk h0 hh => pairM_row hs hk h0 hh
  have HNO : Hid ((∀ i, i < t.rows.length → rowHit t a b i = false) → pairM t a b = none) := fun h => pairM_none hs h
  clear hs
  generalize pairM t a b = res at *
  go_enter Tryz.func102, Tryz.ntmps102
  go_wp2
  go_loop [7] (fun y => y = .int .i32 44032) (fun _ => 0)
  case atStart => rfl
  case round =>
    subst hrel
    go_wp2
    all_goals try (exfalso; have h1 := HL.out; have h2 := HNOT.out; omega)
    all_goals try (exfalso; have h1 := HL.out; have h2 := HNOT.out; simp only [beq_iff_eq] at *; omega)
    all_goals
      go_loopw [9] (fun y wr => ∃ k : Nat, y = .int .i64 k ∧ k ≤ t.rows.length ∧ Hid (∀ i, i < k → rowHit t a b i = false) ∧ Hid (Below (w.heap.size + 1) W0 wr)) (fun y _ => t.rows.length - (intOf y).toNat)
      case atStart => exact ⟨0, rfl, Nat.zero_le _, fun i hi => by omega, by rw [← hsz]; exact Below.refl _ _⟩
      case round =>
        clear e0 e1 e2
        obtain ⟨k, rfl, hk, h0, HB⟩ := hrel
        obtain ⟨⟨x0, x1, x2⟩, hbw⟩ := HEE.out wr HB.out
        have hszr : w.heap.size + 1 ≤ wr.heap.size := by have := HB.out.size; omega
        by_cases hlt : k < t.rows.length
        · have hklz : (k : Int) < (t.rows.length : Int) := by omega
          have HCk := Hid.mk' (HCM.out wr k hbw hlt)
          cases hcm : composesM t k
          · rw [hcm] at HCk
            have hnx := Hid.mk' (noHit_next h0.out (hit_not (a := a) (b := b) hcm))
            clear hcm
            go_wp2_with fail
            refine HCk.out.mono ?_
            rintro e w2 ⟨rfl, hb2⟩
            have HB2 : Hid (Below (w.heap.size + 1) W0 w2) := HB.out.trans (hb2.mono (by omega))
            go_wp2
            go_roundw
            case rel => exact ⟨k + 1, by go_num, by omega, hnx, HB2⟩
            case measure => simp [intOf]; omega
          · have h2 := comp_two hcm
            rw [hcm] at HCk
            have hN0 : Hid ((rw_ t.rows k).to0 ≠ a → ∀ i, i < k + 1 → rowHit t a b i = false) := fun h => noHit_next h0.out (hit_to0 h)
            have hN1 : Hid ((rw_ t.rows k).to1 ≠ b → ∀ i, i < k + 1 → rowHit t a b i = false) := fun h => noHit_next h0.out (hit_to1 h)
            have hY : Hid ((rw_ t.rows k).to0 = a → (rw_ t.rows k).to1 = b → res = some (rw_ t.rows k).fr) := fun h h' => HROW.out k hlt h0.out ((hit_comp h h').trans hcm)
            have HTk : Hid (∀ W, Below w.heap.size w W → Rows4 W (.slice ra t.rows.length rcap) t.rows) := HT
            clear hcm h0
            go_wp2_with fail
            refine HCk.out.mono ?_
            rintro e w2 ⟨rfl, hb2⟩
            have HB2 : Hid (Below (w.heap.size + 1) W0 w2) := HB.out.trans (hb2.mono (by omega))
            obtain ⟨⟨y0, y1, y2⟩, hbw2⟩ := HEE.out w2 HB2.out
            obtain ⟨ra', rcap', ee, hTj⟩ := HTk.out w2 hbw2
            obtain ⟨rfl, rfl⟩ : ra = ra' ∧ rcap = rcap' := by simpa using ee
            obtain ⟨rb, off, tv, rfl, d0, d1, ta, tcap, rfl, hRt⟩ := hTj k hlt
            obtain ⟨tb, toff, rfl, c0⟩ := hRt 0 (by omega)
            obtain ⟨tb2, toff2, ee2, c1⟩ := hRt 1 (by omega)
            obtain ⟨rfl, rfl⟩ : tb = tb2 ∧ toff = toff2 := by simpa using ee2
            rw [Nat.add_zero] at c0
            rw [h2] at d1
            have c0' : w2.cell? ⟨tb, toff, none⟩ = some (.int .i32 (rw_ t.rows k).to0) := c0
            have c1' : w2.cell? ⟨tb, toff + 1, none⟩ = some (.int .i32 (rw_ t.rows k).to1) := c1
            clear ee ee2 hTj hRt c0 c1 h2 x0 x1 x2 HCk hb2 hbw
            generalize (rw_ t.rows k).to0 = t0 at *
            generalize (rw_ t.rows k).to1 = t1 at *
            generalize (rw_ t.rows k).fr = fr at *
            by_cases g0 : t0 = a
            · by_cases g1 : t1 = b
              · have b0 : (t0 == a) = true := by simp [g0]
                have b1 : (t1 == b) = true := by simp [g1]
                have hres := hY.out g0 g1
                clear g0 g1 hN0 hN1 hY
                subst hres
                go_wp2
                go_ret
                exact ⟨rfl, hbw2⟩
              · have b0 : (t0 == a) = true := by simp [g0]
                have b1 : (t1 == b) = false := by simp [g1]
                have hnx := Hid.mk' (hN1.out g1)
                clear g0 g1 hN0 hN1 hY
                go_wp2
                go_roundw
                case rel => exact ⟨k + 1, by go_num, by omega, hnx, HB2⟩
                case measure => simp [intOf]; omega
            · have b0 : (t0 == a) = false := by simp [g0]
              have hnx := Hid.mk' (hN0.out g0)
              clear g0 hN0 hN1 hY
              go_wp2
              go_roundw
              case rel => exact ⟨k + 1, by go_num, by omega, hnx, HB2⟩
              case measure => simp [intOf]; omega
        · obtain rfl : k = t.rows.length := by omega
          have hres := HNO.out h0.out
          subst hres
          go_wp2
          go_ret
          exact ⟨rfl, hbw⟩
theorem refPair_any (vr vc ve : Value) (t : Nm) (a b : Int) (w : World) (hR : Rows4 w vr t.rows) (hC : Tab w vc t.cls) (hE : Runes w ve t.exc) (hl : t.rows.length ≤ 2147483648) (hlc : t.cls.length ≤ 2147483648) (hle : t.exc.length ≤ 2147483648) :
    Calls Tryz.prog 102 #[.agg #[vr, vc, ve], .int .i32 a, .int .i32 b] w fun e w' => e = .returned (.int .i32 ((pairM t a b).getD (-1))) ∧ Below w.heap.size w w' := by
  by_cases h0 : 4352 ≤ a ∧ a ≤ 4370
  · by_cases hV : 4449 ≤ b ∧ b ≤ 4469
    · exact refPair_lv vr vc ve t a b w h0.1 h0.2 hV.1 hV.2
    · exact refPair_l vr vc ve t a b w hR hC hE hl hlc hle (by unfold sylPair; rw [if_neg (by omega), if_neg (by omega)]) h0.1 h0.2
  · cases hs : sylPair a b with
    | none => exact refPair_o vr vc ve t a b w hR hC hE hl hlc hle hs (by omega)
    | some r =>
      have : endlessM a = true ∧ 4520 ≤ b ∧ b ≤ 4546 := by
        unfold sylPair at hs
        rw [if_neg (by omega)] at hs
        split at hs
        · rename_i h; exact ⟨by unfold endlessM; rw [decide_eq_true_eq]; exact ⟨h.1, h.2.1, h.2.2.1⟩, h.2.2.2⟩
        · cases hs
      exact refPair_t vr vc ve t a b w this.1 this.2.1 this.2.2
end Go.Proofs.YtoceaielclomcaaRRGreatDoor
namespace Go.Proofs.YtoceaielclomcaaRRGreatDoor
open Go.RowKit

set_option maxRecDepth 100000 in
set_option maxHeartbeats 16000000 in
theorem refPut_any (a : Option Addr) (cap : Nat) (vc ve : Value) (t : Nm) (v : Value) (l : List Int) (w : World) (hN : NormAt w a cap vc ve t) (hv : Runes w v l) (hll : l.length ≤ 2147483) :
    Calls Tryz.prog 69 #[.agg #[.slice a t.rows.length cap, vc, ve], v] w fun e w' => ∃ v', e = .returned v' ∧ w'.ownsRow w.heap.size 21 1 v' (putM (classOf t.cls) (pairM t) l).length ((putM (classOf t.cls) (pairM t) l).map (Value.int .i32)) ∧ Below w.heap.size w w' := by
  obtain ⟨i0, hi, hz0, hz1, hz2⟩ := info_parts Tryz.infoRune
  obtain ⟨W0, hW0, hsz, hb0, e0, e1, e2⟩ := norm_box w (.slice a t.rows.length cap) vc ve
  have HK : Hid (∀ W x, Below w.heap.size w W → _) := fun W x hW => refClass_any (.slice a t.rows.length cap) vc ve t.cls x W (hN.C.below hW) (by have := hN.lc; omega)
  have HP : Hid (∀ W x y, Below w.heap.size w W → _) := fun W x y hW => refPair_any (.slice a t.rows.length cap) vc ve t x y W (hN.R.below hW) (hN.C.below hW) (hN.E.below hW) (by have := hN.right.len; omega) (by have := hN.lc; omega) (by have := hN.right.lenE; omega)
  have HNN : Hid (∀ x y z, pairM t x y = some z → 0 ≤ z) := fun x y z h => pair_nonneg hN.right.row h
  have HNX : Hid (∀ k, k < l.length → (putM (classOf t.cls) (pairM t) (l.take (k + 1))) = stepM (classOf t.cls) (pairM t) (putM (classOf t.cls) (pairM t) (l.take k)) (l.getD k 0)) := fun k hk => put_next _ _ l k hk
  have HLE : Hid (∀ k, (putM (classOf t.cls) (pairM t) (l.take k)).length ≤ 2147483) := fun k => by
    have h1 := put_len (classOf t.cls) (pairM t) (l.take k)
    rw [List.length_take] at h1
    omega
  have HALL : Hid (l.take l.length = l) := List.take_length
  have HV : Hid (∀ W, Below w.heap.size w W → Runes W v l) := fun W hW => hv.below hW
  obtain ⟨va, vcp, rfl, -⟩ := id hv
  obtain ⟨ca, ccap, rfl, -⟩ := id hN.C
  obtain ⟨ea, ecap, rfl, -⟩ := id hN.E
  have HEE : Hid (∀ W, Below (w.heap.size + 1) W0 W → (W.cell? ⟨w.heap.size, 0, none⟩ = some (.slice a t.rows.length cap) ∧ W.cell? ⟨w.heap.size, 1, none⟩ = some (.slice ca t.cls.length ccap) ∧ W.cell? ⟨w.heap.size, 2, none⟩ = some (.slice ea t.exc.length ecap)) ∧ Below w.heap.size w W) := fun W hb => ⟨⟨(hb.cell (p := ⟨w.heap.size, 0, none⟩) (Nat.lt_succ_self _)).trans e0, (hb.cell (p := ⟨w.heap.size, 1, none⟩) (Nat.lt_succ_self _)).trans e1, (hb.cell (p := ⟨w.heap.size, 2, none⟩) (Nat.lt_succ_self _)).trans e2⟩, hb0.trans (hb.mono (Nat.le_succ _))⟩
  clear hN hv e0 e1 e2
  go_enter Tryz.func69, Tryz.ntmps69
  go_wp2
  go_loopw [5, 6] (fun bv x wr => ∃ k : Nat, x = .int .i64 k ∧ k ≤ l.length ∧ Hid (wr.ownsRow (w.heap.size + 1) 21 1 bv (putM (classOf t.cls) (pairM t) (l.take k)).length ((putM (classOf t.cls) (pairM t) (l.take k)).map (Value.int .i32))) ∧ Hid (Below (w.heap.size + 1) W0 wr)) (fun _ x _ => l.length - (intOf x).toNat)
  case atStart => exact ⟨0, rfl, Nat.zero_le _, World.ownsRow_nil _ _ _ _, by rw [← hsz]; exact Below.refl _ _⟩
  case round =>
    obtain ⟨k, rfl, hk, HO, HB⟩ := hrel
    generalize wr = wo at *
    obtain ⟨-, hbw⟩ := HEE.out wo HB.out
    have hszo : w.heap.size + 1 ≤ wo.heap.size := by have := HB.out.size; omega
    obtain ⟨ba, bcap, rfl⟩ := own_slice HO.out
    by_cases hlt : k < l.length
    · obtain ⟨va', vcp', ee, hvj⟩ := HV.out wo hbw
      obtain ⟨rfl, rfl⟩ : va = va' ∧ vcp = vcp' := by simpa using ee
      obtain ⟨b, off, rfl, ck⟩ := hvj k hlt
      have HNXk := Hid.mk' (HNX.out k hlt)
      have hle := HLE.out k
      have HRO := Hid.mk' (Runes.own HO.out)
      have hklz : (k : Int) < (l.length : Int) := by omega
      clear ee hvj
      generalize l.getD k 0 = r at *
      generalize (putM (classOf t.cls) (pairM t) (l.take k)) = O at *
      have HLR : Hid (∀ W, Below wo.heap.size wo W → (W.cell? ⟨w.heap.size, 0, none⟩ = some (.slice a t.rows.length cap) ∧ W.cell? ⟨w.heap.size, 1, none⟩ = some (.slice ca t.cls.length ccap) ∧ W.cell? ⟨w.heap.size, 2, none⟩ = some (.slice ea t.exc.length ecap)) ∧ W.cell? ⟨b, off + k, none⟩ = some (.int .i32 r) ∧ Below w.heap.size w W ∧ Below (w.heap.size + 1) W0 W) := fun W hW => by
        have h1 : Below (w.heap.size + 1) W0 W := HB.out.trans (hW.mono (by omega))
        exact ⟨(HEE.out W h1).1, (hW.cell (lt_of_cell ck)).trans ck, (HEE.out W h1).2, h1⟩
      clear ck hbw
      by_cases hneg : lastZ (classOf t.cls) O < 0
      · have hlast : ∀ m : Nat, m < O.length → 0 < classOf t.cls (O.getD m 0) := fun m hm => lastIn_above (classOf t.cls) O O.length m (by unfold lastZ at hneg; omega) hm
        have HLA := Hid.mk' hlast
        have htf : triedM (classOf t.cls) O r = false := by
          cases e : triedM (classOf t.cls) O r
          · rfl
          · have := ((tried_iff (classOf t.cls) O r).1 e).1; omega
        rw [step_not _ _ _ _ htf] at HNXk
        clear hlast hneg htf HP
        go_wp2
        go_loopw [7] (fun y wr => ∃ (j : Nat) (x : Int), y = .int .i64 x ∧ Hid (x = (j : Int) - 1) ∧ j ≤ O.length ∧ Hid (Below wo.heap.size wo wr)) (fun y _ => (intOf y + 1).toNat)
        case atStart => exact ⟨O.length, (O.length : Int) - 1, rfl, rfl, Nat.le_refl _, Below.refl _ _⟩
        case round =>
          obtain ⟨j, x, rfl, hx, hj, HB2⟩ := hrel
          rcases Nat.eq_zero_or_pos j with hj0 | hj0
          · obtain rfl : x = -1 := by have := hx.out; omega
            clear hx
            go_wp2
            refine wp_region_held (S := (fun _ => True)) (by kernel_rfl) ?_
            refine wpAnyH_take (i := 0) (oi := ⟨_, _, _, _, _, _⟩) (v := ?_) rfl (by kernel_rfl) (by kernel_rfl) (by kernel_rfl) (fun _ _ _ h => h) (Or.inl ⟨by rfl, ?_⟩) trivial ?_
            rotate_left
            · (intro w hSw; (try dsimp only at hSw); go_simp; try with_reducible rfl)
            try simp only [Act.put, List.setIfInBounds_toArray, List.set_cons_zero, List.set_cons_succ]
            refine wpAnyH_take (i := 1) (oi := ⟨_, _, _, _, _, _⟩) (v := ?_) rfl (by kernel_rfl) (by kernel_rfl) (by kernel_rfl) (fun _ _ _ h => h) (Or.inl ⟨by rfl, ?_⟩) trivial ?_
            rotate_left
            · (intro w hSw; (try dsimp only at hSw); go_simp; try with_reducible rfl)
            try simp only [Act.put, List.setIfInBounds_toArray, List.set_cons_zero, List.set_cons_succ]
            refine wpAnyH_take (i := 2) (oi := ⟨_, _, _, _, _, _⟩) (v := ?_) rfl (by kernel_rfl) (by kernel_rfl) (by kernel_rfl) (fun _ _ _ h => h) (Or.inl ⟨by rfl, ?_⟩) trivial ?_
            rotate_left
            · (intro w hSw; (try dsimp only at hSw); go_simp; try with_reducible rfl)
            try simp only [Act.put, List.setIfInBounds_toArray, List.set_cons_zero, List.set_cons_succ]
            refine wpAnyH_take (i := 3) (oi := ⟨_, _, _, _, _, _⟩) (v := undef) rfl (by kernel_rfl) (by kernel_rfl) (by kernel_rfl) (fun _ _ _ h => h) (Or.inr ⟨by rfl, rfl⟩) trivial ?_
            try simp only [Act.put, List.setIfInBounds_toArray, List.set_cons_zero, List.set_cons_succ]
            refine wpAnyH_take (i := 4) (oi := ⟨_, _, _, _, _, _⟩) (v := undef) rfl (by kernel_rfl) (by kernel_rfl) (by kernel_rfl) (fun _ _ _ h => h) (Or.inr ⟨by rfl, rfl⟩) trivial ?_
            try simp only [Act.put, List.setIfInBounds_toArray, List.set_cons_zero, List.set_cons_succ]
            refine wpAnyH_take (i := 5) (oi := ⟨_, _, _, _, _, _⟩) (v := undef) rfl (by kernel_rfl) (by kernel_rfl) (by kernel_rfl) (fun _ _ _ h => h) (Or.inr ⟨by rfl, rfl⟩) trivial ?_
            try simp only [Act.put, List.setIfInBounds_toArray, List.set_cons_zero, List.set_cons_succ]
            refine wpAnyH_take (i := 6) (oi := ⟨_, _, _, _, _, _⟩) (v := undef) rfl (by kernel_rfl) (by kernel_rfl) (by kernel_rfl) (fun _ _ _ h => h) (Or.inr ⟨by rfl, rfl⟩) trivial ?_
            try simp only [Act.put, List.setIfInBounds_toArray, List.set_cons_zero, List.set_cons_succ]
            refine wpAnyH_take (i := 7) (oi := ⟨_, _, _, _, _, _⟩) (v := undef) rfl (by kernel_rfl) (by kernel_rfl) (by kernel_rfl) (fun _ _ _ h => h) (Or.inr ⟨by rfl, rfl⟩) trivial ?_
            try simp only [Act.put, List.setIfInBounds_toArray, List.set_cons_zero, List.set_cons_succ]
            refine wpAnyH_take (i := 8) (oi := ⟨_, _, _, _, _, _⟩) (v := undef) rfl (by kernel_rfl) (by kernel_rfl) (by kernel_rfl) (fun _ _ _ h => h) (Or.inr ⟨by rfl, rfl⟩) trivial ?_
            try simp only [Act.put, List.setIfInBounds_toArray, List.set_cons_zero, List.set_cons_succ]
            refine wpAnyH_take (i := 9) (oi := ⟨_, _, _, _, _, _⟩) (v := undef) rfl (by kernel_rfl) (by kernel_rfl) (by kernel_rfl) (fun _ _ _ h => h) (Or.inr ⟨by rfl, rfl⟩) trivial ?_
            try simp only [Act.put, List.setIfInBounds_toArray, List.set_cons_zero, List.set_cons_succ]
            refine wpAnyH_take (i := 10) (oi := ⟨_, _, _, _, _, _⟩) (v := ?_) rfl (by kernel_rfl) (by kernel_rfl) (by kernel_rfl) (fun _ _ _ h => h) (Or.inl ⟨by rfl, ?_⟩) trivial ?_
            rotate_left
            · (intro w hSw; (try dsimp only at hSw); go_simp; try with_reducible rfl)
            try simp only [Act.put, List.setIfInBounds_toArray, List.set_cons_zero, List.set_cons_succ]
            refine wpAnyH_done (by kernel_rfl) ?_ _
            go_wp2
            go_loopw [8, 9] (fun tb _ wr => tb = .bool false ∧ Hid (Below wo.heap.size wo wr)) (fun _ _ _ => 0)
            case atStart => exact ⟨rfl, HB2.out.drew⟩
            case round =>
              obtain ⟨rfl, HB3⟩ := hrel
              have hBe := HB3.out
              have hown := owns_below HO.out hBe
              have hse : w.heap.size + 1 ≤ wr.heap.size := by have h1 := hBe.size; have h2 := HB.out.size; omega
              have HCN := Hid.mk' (cell_one_new wr (.int .i32 r) 21)
              have cre := (HLR.out wr hBe).2.1
              go_wp2_with (at_builtin; refine wpList_append_own _ rfl _ _ 37 rfl (w.heap.size + 1) 21 i0 (.int .i32 0) 1 4 Tryz.underlying37 hi hz0 hz1 hz2 rfl (by decide) _ _ _ rfl (hown.alloc _) ⟨wr.heap.size, 0, none⟩ 1 1 [.int .i32 r] rfl rfl HCN.out (by intro u hu; simp at hu; subst hu; rfl) (by unfold maxLen; omega) (by omega) (by simp; omega) ?_; intro v' w9 hown' hgrow _)
              have HB9 : Hid (Below (w.heap.size + 1) W0 w9) := ((HLR.out wr hBe).2.2.2.alloc (by omega) _).grown hgrow (by simp; omega) (fun j hj => (hown.lt j hj).1)
              have HO9 : Hid (w9.ownsRow (w.heap.size + 1) 21 1 v' (putM (classOf t.cls) (pairM t) (l.take (k + 1))).length ((putM (classOf t.cls) (pairM t) (l.take (k + 1))).map (Value.int .i32))) := by
                rw [HNXk.out]
                refine Hid.mk' ?_
                simpa using hown'
              clear hown' hgrow hown cre
              go_wp2
              go_roundw
              case rel => exact ⟨k + 1, by go_num, by omega, HO9, HB9⟩
              case measure => (simp [intOf]; try omega)
          · obtain ⟨m, rfl⟩ : ∃ m, j = m + 1 := ⟨j - 1, by omega⟩
            obtain rfl : x = (m : Int) := by have := hx.out; omega
            have hcp := HLA.out m (by omega)
            obtain ⟨oa', oc', ee', hoj⟩ := HRO.out
            obtain ⟨rfl, rfl⟩ : ba = oa' ∧ bcap = oc' := by simpa using ee'
            obtain ⟨ob, ooff, rfl, cm⟩ := hoj m (by omega)
            clear ee' hoj
            have hmz : (m : Int) < (O.length : Int) := by omega
            have hm0 : (0 : Int) ≤ (m : Int) := by omega
            have hdm : decide ((0 : Int) ≤ (m : Int)) = true := decide_eq_true hm0
            generalize O.getD m 0 = om at *
            have hbzA : Below wo.heap.size wo wr.drew := HB2.out.drew
            have HZA : Hid (∀ W, Below wo.heap.size wo W → W.cell? ⟨w.heap.size, 0, none⟩ = some (.slice a t.rows.length cap) ∧ W.cell? ⟨w.heap.size, 1, none⟩ = some (.slice ca t.cls.length ccap) ∧ W.cell? ⟨w.heap.size, 2, none⟩ = some (.slice ea t.exc.length ecap) ∧ W.cell? ⟨ob, ooff + m, none⟩ = some (.int .i32 om)) := fun W hW => ⟨(HLR.out W hW).1.1, (HLR.out W hW).1.2.1, (HLR.out W hW).1.2.2, (hW.cell (lt_of_cell cm)).trans cm⟩
            have hzA := HZA.out _ hbzA
            clear hx cm
            go_wp2
            go_region_held3 (fun W => W.cell? ⟨w.heap.size, 0, none⟩ = some (.slice a t.rows.length cap) ∧ W.cell? ⟨w.heap.size, 1, none⟩ = some (.slice ca t.cls.length ccap) ∧ W.cell? ⟨w.heap.size, 2, none⟩ = some (.slice ea t.exc.length ecap) ∧ W.cell? ⟨ob, ooff + m, none⟩ = some (.int .i32 om)) (first | exact hzA | exact HZA.out _ (by assumption)) (first | (go_at_call 95; refine (HK.out _ om ?_).mono ?_; exact (HLR.out _ (by assumption)).2.2.1; rintro e wA ⟨rfl, hbA⟩; have hBA : Below wo.heap.size wo wA := hbzA.trans (hbA.mono hbzA.size)))
            clear hzA HZA hbA hbzA
            go_wp2
            go_roundw
            case rel => exact ⟨m, (m : Int) - 1, rfl, rfl, by omega, hBA⟩
            case measure => (simp [intOf]; try omega)
      · obtain ⟨k0, hk0⟩ : ∃ k0 : Nat, lastZ (classOf t.cls) O = k0 := ⟨(lastZ (classOf t.cls) O).toNat, by omega⟩
        clear hneg
        cases htr : triedM (classOf t.cls) O r
        · rw [step_not _ _ _ _ htr] at HNXk
          clear HP
          have HTF : Hid ((∀ m : Nat, k0 < m → m < O.length → classOf t.cls (O.getD m 0) < classOf t.cls r) → False) := fun hall => by
            rw [(tried_iff (classOf t.cls) O r).2 ⟨by omega, fun m h1 h2 => hall m (by omega) h2⟩] at htr
            cases htr
          have HAB : Hid (∀ m : Nat, k0 < m → m < O.length → 0 < classOf t.cls (O.getD m 0)) := fun m h1 h2 => lastIn_above (classOf t.cls) O O.length m (by unfold lastZ at hk0; omega) h2
          have HAT : Hid (¬ 0 < classOf t.cls (O.getD k0 0)) := by
            have := lastIn_at (classOf t.cls) O O.length (by unfold lastZ at hk0; omega)
            unfold lastZ at hk0
            rw [hk0, Int.toNat_natCast] at this
            exact this
          have hk0l : k0 < O.length := by have := (lastIn_lt (classOf t.cls) O O.length).1; unfold lastZ at hk0; omega
          clear htr hk0
          go_wp2
          go_loopw [7] (fun y wr => ∃ (j : Nat) (x : Int), y = .int .i64 x ∧ Hid (x = (j : Int) - 1) ∧ j ≤ O.length ∧ k0 < j ∧ Hid (Below wo.heap.size wo wr)) (fun y _ => (intOf y + 1).toNat)
          case atStart => exact ⟨O.length, (O.length : Int) - 1, rfl, rfl, Nat.le_refl _, hk0l, Below.refl _ _⟩
          case round =>
            obtain ⟨j, x, rfl, hx, hj, hj0, HB2⟩ := hrel
            obtain ⟨m, rfl⟩ : ∃ m, j = m + 1 := ⟨j - 1, by omega⟩
            obtain rfl : x = (m : Int) := by have := hx.out; omega
            obtain ⟨oa', oc', ee', hoj⟩ := HRO.out
            obtain ⟨rfl, rfl⟩ : ba = oa' ∧ bcap = oc' := by simpa using ee'
            obtain ⟨ob, ooff, rfl, cm⟩ := hoj m (by omega)
            clear ee' hoj
            have hmz : (m : Int) < (O.length : Int) := by omega
            have hm0 : (0 : Int) ≤ (m : Int) := by omega
            have hdm : decide ((0 : Int) ≤ (m : Int)) = true := decide_eq_true hm0
            by_cases hmk : m = k0
            · have hmk' : k0 = m := hmk.symm
              subst hmk'
              have hcp := HAT.out
              have HOM : Hid (wo.cell? ⟨ob, ooff + k0, none⟩ = some (.int .i32 (O.getD k0 0))) := cm
              obtain ⟨om, hom⟩ : ∃ om, O.getD k0 0 = om := ⟨_, rfl⟩
              rw [hom] at hcp cm
              have hbzA : Below wo.heap.size wo wr.drew := HB2.out.drew
              have HZA : Hid (∀ W, Below wo.heap.size wo W → W.cell? ⟨w.heap.size, 0, none⟩ = some (.slice a t.rows.length cap) ∧ W.cell? ⟨w.heap.size, 1, none⟩ = some (.slice ca t.cls.length ccap) ∧ W.cell? ⟨w.heap.size, 2, none⟩ = some (.slice ea t.exc.length ecap) ∧ W.cell? ⟨ob, ooff + k0, none⟩ = some (.int .i32 om)) := fun W hW => ⟨(HLR.out W hW).1.1, (HLR.out W hW).1.2.1, (HLR.out W hW).1.2.2, (hW.cell (lt_of_cell cm)).trans cm⟩
              have hzA := HZA.out _ hbzA
              clear hx cm
              have HHO := Hid.mk' hom
              clear hom
              go_wp2
              go_region_held3 (fun W => W.cell? ⟨w.heap.size, 0, none⟩ = some (.slice a t.rows.length cap) ∧ W.cell? ⟨w.heap.size, 1, none⟩ = some (.slice ca t.cls.length ccap) ∧ W.cell? ⟨w.heap.size, 2, none⟩ = some (.slice ea t.exc.length ecap) ∧ W.cell? ⟨ob, ooff + k0, none⟩ = some (.int .i32 om)) (first | exact hzA | exact HZA.out _ (by assumption)) (first | (go_at_call 95; refine (HK.out _ om ?_).mono ?_; exact (HLR.out _ (by assumption)).2.2.1; rintro e wA ⟨rfl, hbA⟩; have hBA : Below wo.heap.size wo wA := hbzA.trans (hbA.mono hbzA.size)))
              clear hzA HZA hbA hbzA
              clear HOM HHO HAT HAB
              go_wp2
              clear hcp
              go_loopw [8, 9] (fun tb kk wr => ∃ (bb : Bool) (q : Nat) (z : Int), tb = .bool bb ∧ kk = .int .i64 z ∧ Hid (z = q) ∧ k0 < q ∧ q ≤ O.length ∧ Hid (bb = true → ∀ m : Nat, k0 < m → m < q → classOf t.cls (O.getD m 0) < classOf t.cls r) ∧ Hid (Below wo.heap.size wo wr)) (fun _ kk _ => O.length - (intOf kk).toNat)
              case atStart => exact ⟨true, k0 + 1, (k0 : Int) + 1, by first | rfl | simp, rfl, by show _ = _; omega, by omega, by omega, fun _ m h1 h2 => by omega, hBA⟩
              case round =>
                obtain ⟨bb, q, z, rfl, rfl, hz, hq1, hq2, hqi, HB2⟩ := hrel
                obtain rfl : z = (q : Int) := hz.out
                clear hz
                cases bb
                · clear hqi
                  have hBe := HB2.out
                  have hown := owns_below HO.out hBe
                  have hse : w.heap.size + 1 ≤ wr.heap.size := by have h1 := hBe.size; have h2 := HB.out.size; omega
                  have HCN := Hid.mk' (cell_one_new wr (.int .i32 r) 21)
                  have cre := (HLR.out wr hBe).2.1
                  go_wp2_with (at_builtin; refine wpList_append_own _ rfl _ _ 37 rfl (w.heap.size + 1) 21 i0 (.int .i32 0) 1 4 Tryz.underlying37 hi hz0 hz1 hz2 rfl (by decide) _ _ _ rfl (hown.alloc _) ⟨wr.heap.size, 0, none⟩ 1 1 [.int .i32 r] rfl rfl HCN.out (by intro u hu; simp at hu; subst hu; rfl) (by unfold maxLen; omega) (by omega) (by simp; omega) ?_; intro v' w9 hown' hgrow _)
                  have HB9 : Hid (Below (w.heap.size + 1) W0 w9) := ((HLR.out wr hBe).2.2.2.alloc (by omega) _).grown hgrow (by simp; omega) (fun j hj => (hown.lt j hj).1)
                  have HO9 : Hid (w9.ownsRow (w.heap.size + 1) 21 1 v' (putM (classOf t.cls) (pairM t) (l.take (k + 1))).length ((putM (classOf t.cls) (pairM t) (l.take (k + 1))).map (Value.int .i32))) := by
                    rw [HNXk.out]
                    refine Hid.mk' ?_
                    simpa using hown'
                  clear hown' hgrow hown cre
                  go_wp2
                  go_roundw
                  case rel => exact ⟨k + 1, by go_num, by omega, HO9, HB9⟩
                  case measure => (simp [intOf]; try omega)
                · by_cases hqn : q < O.length
                  · have hqz : (q : Int) < (O.length : Int) := by omega
                    obtain ⟨oa', oc', ee', hoj⟩ := HRO.out
                    obtain ⟨rfl, rfl⟩ : some (⟨ob, ooff, none⟩ : Addr) = oa' ∧ bcap = oc' := by simpa using ee'
                    obtain ⟨ob2, ooff2, ee2, cm⟩ := hoj q (by omega)
                    obtain ⟨rfl, rfl⟩ : ob = ob2 ∧ ooff = ooff2 := by simpa using ee2
                    clear ee' ee2 hoj
                    have hmz : (q : Int) < (O.length : Int) := by omega
                    have hm0 : (0 : Int) ≤ (q : Int) := by omega
                    have hnx : Hid (classOf t.cls (O.getD q 0) < classOf t.cls r → ∀ m : Nat, k0 < m → m < q + 1 → classOf t.cls (O.getD m 0) < classOf t.cls r) := fun h m h1 h2 => by
                      rcases Nat.lt_or_ge m q with g' | g'
                      · exact hqi.out rfl m h1 g'
                      · obtain rfl : m = q := by omega
                        exact h
                    clear hqi
                    generalize O.getD q 0 = om at *
                    have hbzB : Below wo.heap.size wo wr.drew := HB2.out.drew
                    have HZB : Hid (∀ W, Below wo.heap.size wo W → W.cell? ⟨w.heap.size, 0, none⟩ = some (.slice a t.rows.length cap) ∧ W.cell? ⟨w.heap.size, 1, none⟩ = some (.slice ca t.cls.length ccap) ∧ W.cell? ⟨w.heap.size, 2, none⟩ = some (.slice ea t.exc.length ecap) ∧ W.cell? ⟨ob, ooff + q, none⟩ = some (.int .i32 om)) := fun W hW => ⟨(HLR.out W hW).1.1, (HLR.out W hW).1.2.1, (HLR.out W hW).1.2.2, (hW.cell (lt_of_cell cm)).trans cm⟩
                    have hzB := HZB.out _ hbzB
                    clear cm
                    go_wp2
                    go_region_held3 (fun W => W.cell? ⟨w.heap.size, 0, none⟩ = some (.slice a t.rows.length cap) ∧ W.cell? ⟨w.heap.size, 1, none⟩ = some (.slice ca t.cls.length ccap) ∧ W.cell? ⟨w.heap.size, 2, none⟩ = some (.slice ea t.exc.length ecap) ∧ W.cell? ⟨ob, ooff + q, none⟩ = some (.int .i32 om)) (first | exact hzB | exact HZB.out _ (by assumption)) (first | (go_at_call 95; refine (HK.out _ om ?_).mono ?_; exact (HLR.out _ (by assumption)).2.2.1; rintro e wB ⟨rfl, hbB⟩; have hBB : Below wo.heap.size wo wB := hbzB.trans (hbB.mono hbzB.size)))
                    clear hzB HZB hbB hbzB
                    have HB4 := Hid.mk' hBB
                    clear hBB
                    have hbzC : Below wo.heap.size wo wB.drew := HB4.out.drew
                    have HZC : Hid (∀ W, Below wo.heap.size wo W → W.cell? ⟨w.heap.size, 0, none⟩ = some (.slice a t.rows.length cap) ∧ W.cell? ⟨w.heap.size, 1, none⟩ = some (.slice ca t.cls.length ccap) ∧ W.cell? ⟨w.heap.size, 2, none⟩ = some (.slice ea t.exc.length ecap) ∧ W.cell? ⟨b, off + k, none⟩ = some (.int .i32 r)) := fun W hW => ⟨(HLR.out W hW).1.1, (HLR.out W hW).1.2.1, (HLR.out W hW).1.2.2, (HLR.out W hW).2.1⟩
                    have hzC := HZC.out _ hbzC
                    go_wp2
                    by_cases hge : classOf t.cls om < classOf t.cls r
                    · have hn2 := Hid.mk' (hnx.out hge)
                      have hdd : decide (classOf t.cls r ≤ classOf t.cls om) = false := decide_eq_false (by omega)
                      go_region_held3 (fun W => W.cell? ⟨w.heap.size, 0, none⟩ = some (.slice a t.rows.length cap) ∧ W.cell? ⟨w.heap.size, 1, none⟩ = some (.slice ca t.cls.length ccap) ∧ W.cell? ⟨w.heap.size, 2, none⟩ = some (.slice ea t.exc.length ecap) ∧ W.cell? ⟨b, off + k, none⟩ = some (.int .i32 r)) (first | exact hzC | exact HZC.out _ (by assumption)) (first | (go_at_call 95; refine (HK.out _ r ?_).mono ?_; exact (HLR.out _ (by assumption)).2.2.1; rintro e wC ⟨rfl, hbC⟩; have hBC : Below wo.heap.size wo wC := hbzC.trans (hbC.mono hbzC.size)))
                      clear hzC HZC hbC hbzC
                      go_wp2
                      go_roundw
                      case rel => exact ⟨true, q + 1, (q : Int) + 1, rfl, rfl, by show _ = _; omega, by omega, by omega, fun _ => hn2.out, hBC⟩
                      case measure => (simp [intOf]; try omega)
                    · have hdd : decide (classOf t.cls r ≤ classOf t.cls om) = true := decide_eq_true (by omega)
                      go_region_held3 (fun W => W.cell? ⟨w.heap.size, 0, none⟩ = some (.slice a t.rows.length cap) ∧ W.cell? ⟨w.heap.size, 1, none⟩ = some (.slice ca t.cls.length ccap) ∧ W.cell? ⟨w.heap.size, 2, none⟩ = some (.slice ea t.exc.length ecap) ∧ W.cell? ⟨b, off + k, none⟩ = some (.int .i32 r)) (first | exact hzC | exact HZC.out _ (by assumption)) (first | (go_at_call 95; refine (HK.out _ r ?_).mono ?_; exact (HLR.out _ (by assumption)).2.2.1; rintro e wC ⟨rfl, hbC⟩; have hBC : Below wo.heap.size wo wC := hbzC.trans (hbC.mono hbzC.size)))
                      clear hzC HZC hbC hbzC
                      go_wp2
                      go_roundw
                      case rel => exact ⟨false, q + 1, (q : Int) + 1, rfl, rfl, by show _ = _; omega, by omega, by omega, (fun h => by cases h), hBC⟩
                      case measure => (simp [intOf]; try omega)
                  · obtain rfl : q = O.length := by omega
                    exact (HTF.out (hqi.out rfl)).elim
            · have hcp := HAB.out m (by omega) (by omega)
              generalize O.getD m 0 = om at *
              have hbzA : Below wo.heap.size wo wr.drew := HB2.out.drew
              have HZA : Hid (∀ W, Below wo.heap.size wo W → W.cell? ⟨w.heap.size, 0, none⟩ = some (.slice a t.rows.length cap) ∧ W.cell? ⟨w.heap.size, 1, none⟩ = some (.slice ca t.cls.length ccap) ∧ W.cell? ⟨w.heap.size, 2, none⟩ = some (.slice ea t.exc.length ecap) ∧ W.cell? ⟨ob, ooff + m, none⟩ = some (.int .i32 om)) := fun W hW => ⟨(HLR.out W hW).1.1, (HLR.out W hW).1.2.1, (HLR.out W hW).1.2.2, (hW.cell (lt_of_cell cm)).trans cm⟩
              have hzA := HZA.out _ hbzA
              clear hx cm
              go_wp2
              go_region_held3 (fun W => W.cell? ⟨w.heap.size, 0, none⟩ = some (.slice a t.rows.length cap) ∧ W.cell? ⟨w.heap.size, 1, none⟩ = some (.slice ca t.cls.length ccap) ∧ W.cell? ⟨w.heap.size, 2, none⟩ = some (.slice ea t.exc.length ecap) ∧ W.cell? ⟨ob, ooff + m, none⟩ = some (.int .i32 om)) (first | exact hzA | exact HZA.out _ (by assumption)) (first | (go_at_call 95; refine (HK.out _ om ?_).mono ?_; exact (HLR.out _ (by assumption)).2.2.1; rintro e wA ⟨rfl, hbA⟩; have hBA : Below wo.heap.size wo wA := hbzA.trans (hbA.mono hbzA.size)))
              clear hzA HZA hbA hbzA
              go_wp2
              go_roundw
              case rel => exact ⟨m, (m : Int) - 1, rfl, rfl, by omega, by omega, hBA⟩
              case measure => (simp [intOf]; try omega)
        · cases hp : pairM t (O.getD (lastZ (classOf t.cls) O).toNat 0) r with
          | none =>
            rw [step_miss _ _ _ _ htr hp] at HNXk
            have HPx : Hid (∀ W, Below w.heap.size w W → _) := fun W hW => HP.out W (O.getD k0 0) r hW
            rw [hk0, Int.toNat_natCast] at hp
            rw [hp] at HPx
            clear HP hp
            have HTT : Hid (∀ m : Nat, k0 < m → m < O.length → classOf t.cls (O.getD m 0) < classOf t.cls r) := fun m h1 h2 => ((tried_iff (classOf t.cls) O r).1 htr).2 m (by omega) h2
            have HAB : Hid (∀ m : Nat, k0 < m → m < O.length → 0 < classOf t.cls (O.getD m 0)) := fun m h1 h2 => lastIn_above (classOf t.cls) O O.length m (by unfold lastZ at hk0; omega) h2
            have HAT : Hid (¬ 0 < classOf t.cls (O.getD k0 0)) := by
              have := lastIn_at (classOf t.cls) O O.length (by unfold lastZ at hk0; omega)
              unfold lastZ at hk0
              rw [hk0, Int.toNat_natCast] at this
              exact this
            have hk0l : k0 < O.length := by have := (lastIn_lt (classOf t.cls) O O.length).1; unfold lastZ at hk0; omega
            clear htr hk0
            go_wp2
            go_loopw [7] (fun y wr => ∃ (j : Nat) (x : Int), y = .int .i64 x ∧ Hid (x = (j : Int) - 1) ∧ j ≤ O.length ∧ k0 < j ∧ Hid (Below wo.heap.size wo wr)) (fun y _ => (intOf y + 1).toNat)
            case atStart => exact ⟨O.length, (O.length : Int) - 1, rfl, rfl, Nat.le_refl _, hk0l, Below.refl _ _⟩
            case round =>
              obtain ⟨j, x, rfl, hx, hj, hj0, HB2⟩ := hrel
              obtain ⟨m, rfl⟩ : ∃ m, j = m + 1 := ⟨j - 1, by omega⟩
              obtain rfl : x = (m : Int) := by have := hx.out; omega
              obtain ⟨oa', oc', ee', hoj⟩ := HRO.out
              obtain ⟨rfl, rfl⟩ : ba = oa' ∧ bcap = oc' := by simpa using ee'
              obtain ⟨ob, ooff, rfl, cm⟩ := hoj m (by omega)
              clear ee' hoj
              have hmz : (m : Int) < (O.length : Int) := by omega
              have hm0 : (0 : Int) ≤ (m : Int) := by omega
              have hdm : decide ((0 : Int) ≤ (m : Int)) = true := decide_eq_true hm0
              by_cases hmk : m = k0
              · have hmk' : k0 = m := hmk.symm
                subst hmk'
                have hcp := HAT.out
                have HOM : Hid (wo.cell? ⟨ob, ooff + k0, none⟩ = some (.int .i32 (O.getD k0 0))) := cm
                obtain ⟨om, hom⟩ : ∃ om, O.getD k0 0 = om := ⟨_, rfl⟩
                rw [hom] at hcp cm
                have hbzA : Below wo.heap.size wo wr.drew := HB2.out.drew
                have HZA : Hid (∀ W, Below wo.heap.size wo W → W.cell? ⟨w.heap.size, 0, none⟩ = some (.slice a t.rows.length cap) ∧ W.cell? ⟨w.heap.size, 1, none⟩ = some (.slice ca t.cls.length ccap) ∧ W.cell? ⟨w.heap.size, 2, none⟩ = some (.slice ea t.exc.length ecap) ∧ W.cell? ⟨ob, ooff + k0, none⟩ = some (.int .i32 om)) := fun W hW => ⟨(HLR.out W hW).1.1, (HLR.out W hW).1.2.1, (HLR.out W hW).1.2.2, (hW.cell (lt_of_cell cm)).trans cm⟩
                have hzA := HZA.out _ hbzA
                clear hx cm
                have HHO := Hid.mk' hom
                clear hom
                go_wp2
                go_region_held3 (fun W => W.cell? ⟨w.heap.size, 0, none⟩ = some (.slice a t.rows.length cap) ∧ W.cell? ⟨w.heap.size, 1, none⟩ = some (.slice ca t.cls.length ccap) ∧ W.cell? ⟨w.heap.size, 2, none⟩ = some (.slice ea t.exc.length ecap) ∧ W.cell? ⟨ob, ooff + k0, none⟩ = some (.int .i32 om)) (first | exact hzA | exact HZA.out _ (by assumption)) (first | (go_at_call 95; refine (HK.out _ om ?_).mono ?_; exact (HLR.out _ (by assumption)).2.2.1; rintro e wA ⟨rfl, hbA⟩; have hBA : Below wo.heap.size wo wA := hbzA.trans (hbA.mono hbzA.size)))
                clear hzA HZA hbA hbzA
                clear HOM HHO HAT HAB
                go_wp2
                clear hcp
                go_loopw [8, 9] (fun tb kk wr => ∃ (bb : Bool) (q : Nat) (z : Int), tb = .bool bb ∧ kk = .int .i64 z ∧ Hid (z = q) ∧ k0 < q ∧ q ≤ O.length ∧ Hid (bb = true) ∧ Hid (Below wo.heap.size wo wr)) (fun _ kk _ => O.length - (intOf kk).toNat)
                case atStart => exact ⟨true, k0 + 1, (k0 : Int) + 1, by first | rfl | simp, rfl, by show _ = _; omega, by omega, by omega, rfl, hBA⟩
                case round =>
                  obtain ⟨bb, q, z, rfl, rfl, hz, hq1, hq2, hqi, HB2⟩ := hrel
                  obtain rfl : z = (q : Int) := hz.out
                  clear hz
                  cases bb
                  · exact absurd hqi.out (by decide)
                  · by_cases hqn : q < O.length
                    · have hqz : (q : Int) < (O.length : Int) := by omega
                      obtain ⟨oa', oc', ee', hoj⟩ := HRO.out
                      obtain ⟨rfl, rfl⟩ : some (⟨ob, ooff, none⟩ : Addr) = oa' ∧ bcap = oc' := by simpa using ee'
                      obtain ⟨ob2, ooff2, ee2, cm⟩ := hoj q (by omega)
                      obtain ⟨rfl, rfl⟩ : ob = ob2 ∧ ooff = ooff2 := by simpa using ee2
                      clear ee' ee2 hoj
                      have hmz : (q : Int) < (O.length : Int) := by omega
                      have hm0 : (0 : Int) ≤ (q : Int) := by omega
                      have hlt' := HTT.out q hq1 hqn
                      clear hqi
                      generalize O.getD q 0 = om at *
                      have hbzB : Below wo.heap.size wo wr.drew := HB2.out.drew
                      have HZB : Hid (∀ W, Below wo.heap.size wo W → W.cell? ⟨w.heap.size, 0, none⟩ = some (.slice a t.rows.length cap) ∧ W.cell? ⟨w.heap.size, 1, none⟩ = some (.slice ca t.cls.length ccap) ∧ W.cell? ⟨w.heap.size, 2, none⟩ = some (.slice ea t.exc.length ecap) ∧ W.cell? ⟨ob, ooff + q, none⟩ = some (.int .i32 om)) := fun W hW => ⟨(HLR.out W hW).1.1, (HLR.out W hW).1.2.1, (HLR.out W hW).1.2.2, (hW.cell (lt_of_cell cm)).trans cm⟩
                      have hzB := HZB.out _ hbzB
                      clear cm
                      go_wp2
                      go_region_held3 (fun W => W.cell? ⟨w.heap.size, 0, none⟩ = some (.slice a t.rows.length cap) ∧ W.cell? ⟨w.heap.size, 1, none⟩ = some (.slice ca t.cls.length ccap) ∧ W.cell? ⟨w.heap.size, 2, none⟩ = some (.slice ea t.exc.length ecap) ∧ W.cell? ⟨ob, ooff + q, none⟩ = some (.int .i32 om)) (first | exact hzB | exact HZB.out _ (by assumption)) (first | (go_at_call 95; refine (HK.out _ om ?_).mono ?_; exact (HLR.out _ (by assumption)).2.2.1; rintro e wB ⟨rfl, hbB⟩; have hBB : Below wo.heap.size wo wB := hbzB.trans (hbB.mono hbzB.size)))
                      clear hzB HZB hbB hbzB
                      have HB4 := Hid.mk' hBB
                      clear hBB
                      have hbzC : Below wo.heap.size wo wB.drew := HB4.out.drew
                      have HZC : Hid (∀ W, Below wo.heap.size wo W → W.cell? ⟨w.heap.size, 0, none⟩ = some (.slice a t.rows.length cap) ∧ W.cell? ⟨w.heap.size, 1, none⟩ = some (.slice ca t.cls.length ccap) ∧ W.cell? ⟨w.heap.size, 2, none⟩ = some (.slice ea t.exc.length ecap) ∧ W.cell? ⟨b, off + k, none⟩ = some (.int .i32 r)) := fun W hW => ⟨(HLR.out W hW).1.1, (HLR.out W hW).1.2.1, (HLR.out W hW).1.2.2, (HLR.out W hW).2.1⟩
                      have hzC := HZC.out _ hbzC
                      go_wp2
                      have hdd : decide (classOf t.cls r ≤ classOf t.cls om) = false := decide_eq_false (by omega)
                      go_region_held3 (fun W => W.cell? ⟨w.heap.size, 0, none⟩ = some (.slice a t.rows.length cap) ∧ W.cell? ⟨w.heap.size, 1, none⟩ = some (.slice ca t.cls.length ccap) ∧ W.cell? ⟨w.heap.size, 2, none⟩ = some (.slice ea t.exc.length ecap) ∧ W.cell? ⟨b, off + k, none⟩ = some (.int .i32 r)) (first | exact hzC | exact HZC.out _ (by assumption)) (first | (go_at_call 95; refine (HK.out _ r ?_).mono ?_; exact (HLR.out _ (by assumption)).2.2.1; rintro e wC ⟨rfl, hbC⟩; have hBC : Below wo.heap.size wo wC := hbzC.trans (hbC.mono hbzC.size)))
                      clear hzC HZC hbC hbzC
                      go_wp2
                      go_roundw
                      case rel => exact ⟨true, q + 1, (q : Int) + 1, rfl, rfl, by show _ = _; omega, by omega, by omega, rfl, hBC⟩
                      case measure => (simp [intOf]; try omega)
                    · obtain rfl : q = O.length := by omega
                      have hk00 : (0 : Int) ≤ (k0 : Int) := by omega
                      obtain ⟨oa', oc', ee', hoj⟩ := HRO.out
                      obtain ⟨rfl, rfl⟩ : some (⟨ob, ooff, none⟩ : Addr) = oa' ∧ bcap = oc' := by simpa using ee'
                      obtain ⟨ob2, ooff2, ee2, cm⟩ := hoj k0 (by omega)
                      obtain ⟨rfl, rfl⟩ : ob = ob2 ∧ ooff = ooff2 := by simpa using ee2
                      clear ee' ee2 hoj
                      have hmz : (k0 : Int) < (O.length : Int) := by omega
                      have hm0 : (0 : Int) ≤ (k0 : Int) := by omega
                      generalize O.getD k0 0 = om at *
                      have hbzD : Below wo.heap.size wo wr.drew := HB2.out.drew
                      have HZD : Hid (∀ W, Below wo.heap.size wo W → W.cell? ⟨w.heap.size, 0, none⟩ = some (.slice a t.rows.length cap) ∧ W.cell? ⟨w.heap.size, 1, none⟩ = some (.slice ca t.cls.length ccap) ∧ W.cell? ⟨w.heap.size, 2, none⟩ = some (.slice ea t.exc.length ecap) ∧ W.cell? ⟨ob, ooff + k0, none⟩ = some (.int .i32 om) ∧ W.cell? ⟨b, off + k, none⟩ = some (.int .i32 r)) := fun W hW => ⟨(HLR.out W hW).1.1, (HLR.out W hW).1.2.1, (HLR.out W hW).1.2.2, (hW.cell (lt_of_cell cm)).trans cm, (HLR.out W hW).2.1⟩
                      have hzD := HZD.out _ hbzD
                      go_wp2
                      go_region_held3 (fun W => W.cell? ⟨w.heap.size, 0, none⟩ = some (.slice a t.rows.length cap) ∧ W.cell? ⟨w.heap.size, 1, none⟩ = some (.slice ca t.cls.length ccap) ∧ W.cell? ⟨w.heap.size, 2, none⟩ = some (.slice ea t.exc.length ecap) ∧ W.cell? ⟨ob, ooff + k0, none⟩ = some (.int .i32 om) ∧ W.cell? ⟨b, off + k, none⟩ = some (.int .i32 r)) (first | exact hzD | exact HZD.out _ (by assumption)) (first | (go_at_call 102; refine (HPx.out _ ?_).mono ?_; exact (HLR.out _ (by assumption)).2.2.1; rintro e wD ⟨rfl, hbD⟩; have hBD : Below wo.heap.size wo wD := hbzD.trans (hbD.mono hbzD.size)))
                      clear hzD HZD hbD hbzD
                      have hBe := hBD
                      have hown := owns_below HO.out hBe
                      have hse : w.heap.size + 1 ≤ wD.heap.size := by have h1 := hBe.size; have h2 := HB.out.size; omega
                      have HCN := Hid.mk' (cell_one_new wD (.int .i32 r) 21)
                      have cre := (HLR.out wD hBe).2.1
                      go_wp2_with (at_builtin; refine wpList_append_own _ rfl _ _ 37 rfl (w.heap.size + 1) 21 i0 (.int .i32 0) 1 4 Tryz.underlying37 hi hz0 hz1 hz2 rfl (by decide) _ _ _ rfl (hown.alloc _) ⟨wD.heap.size, 0, none⟩ 1 1 [.int .i32 r] rfl rfl HCN.out (by intro u hu; simp at hu; subst hu; rfl) (by unfold maxLen; omega) (by omega) (by simp; omega) ?_; intro v' w9 hown' hgrow _)
                      have HB9 : Hid (Below (w.heap.size + 1) W0 w9) := ((HLR.out wD hBe).2.2.2.alloc (by omega) _).grown hgrow (by simp; omega) (fun j hj => (hown.lt j hj).1)
                      have HO9 : Hid (w9.ownsRow (w.heap.size + 1) 21 1 v' (putM (classOf t.cls) (pairM t) (l.take (k + 1))).length ((putM (classOf t.cls) (pairM t) (l.take (k + 1))).map (Value.int .i32))) := by
                        rw [HNXk.out]
                        refine Hid.mk' ?_
                        simpa using hown'
                      clear hown' hgrow hown cre
                      go_wp2
                      go_roundw
                      case rel => exact ⟨k + 1, by go_num, by omega, HO9, HB9⟩
                      case measure => (simp [intOf]; try omega)
              · have hcp := HAB.out m (by omega) (by omega)
                generalize O.getD m 0 = om at *
                have hbzA : Below wo.heap.size wo wr.drew := HB2.out.drew
                have HZA : Hid (∀ W, Below wo.heap.size wo W → W.cell? ⟨w.heap.size, 0, none⟩ = some (.slice a t.rows.length cap) ∧ W.cell? ⟨w.heap.size, 1, none⟩ = some (.slice ca t.cls.length ccap) ∧ W.cell? ⟨w.heap.size, 2, none⟩ = some (.slice ea t.exc.length ecap) ∧ W.cell? ⟨ob, ooff + m, none⟩ = some (.int .i32 om)) := fun W hW => ⟨(HLR.out W hW).1.1, (HLR.out W hW).1.2.1, (HLR.out W hW).1.2.2, (hW.cell (lt_of_cell cm)).trans cm⟩
                have hzA := HZA.out _ hbzA
                clear hx cm
                go_wp2
                go_region_held3 (fun W => W.cell? ⟨w.heap.size, 0, none⟩ = some (.slice a t.rows.length cap) ∧ W.cell? ⟨w.heap.size, 1, none⟩ = some (.slice ca t.cls.length ccap) ∧ W.cell? ⟨w.heap.size, 2, none⟩ = some (.slice ea t.exc.length ecap) ∧ W.cell? ⟨ob, ooff + m, none⟩ = some (.int .i32 om)) (first | exact hzA | exact HZA.out _ (by assumption)) (first | (go_at_call 95; refine (HK.out _ om ?_).mono ?_; exact (HLR.out _ (by assumption)).2.2.1; rintro e wA ⟨rfl, hbA⟩; have hBA : Below wo.heap.size wo wA := hbzA.trans (hbA.mono hbzA.size)))
                clear hzA HZA hbA hbzA
                go_wp2
                go_roundw
                case rel => exact ⟨m, (m : Int) - 1, rfl, rfl, by omega, by omega, hBA⟩
                case measure => (simp [intOf]; try omega)
          | some y =>
            rw [step_hit _ _ _ _ _ htr hp, hk0, Int.toNat_natCast] at HNXk
            have HPx : Hid (∀ W, Below w.heap.size w W → _) := fun W hW => HP.out W (O.getD k0 0) r hW
            rw [hk0, Int.toNat_natCast] at hp
            rw [hp] at HPx
            have hy0 := HNN.out _ _ _ hp
            clear HP hp
            have HTT : Hid (∀ m : Nat, k0 < m → m < O.length → classOf t.cls (O.getD m 0) < classOf t.cls r) := fun m h1 h2 => ((tried_iff (classOf t.cls) O r).1 htr).2 m (by omega) h2
            have HAB : Hid (∀ m : Nat, k0 < m → m < O.length → 0 < classOf t.cls (O.getD m 0)) := fun m h1 h2 => lastIn_above (classOf t.cls) O O.length m (by unfold lastZ at hk0; omega) h2
            have HAT : Hid (¬ 0 < classOf t.cls (O.getD k0 0)) := by
              have := lastIn_at (classOf t.cls) O O.length (by unfold lastZ at hk0; omega)
              unfold lastZ at hk0
              rw [hk0, Int.toNat_natCast] at this
              exact this
            have hk0l : k0 < O.length := by have := (lastIn_lt (classOf t.cls) O O.length).1; unfold lastZ at hk0; omega
            clear htr hk0
            go_wp2
            go_loopw [7] (fun y wr => ∃ (j : Nat) (x : Int), y = .int .i64 x ∧ Hid (x = (j : Int) - 1) ∧ j ≤ O.length ∧ k0 < j ∧ Hid (Below wo.heap.size wo wr)) (fun y _ => (intOf y + 1).toNat)
            case atStart => exact ⟨O.length, (O.length : Int) - 1, rfl, rfl, Nat.le_refl _, hk0l, Below.refl _ _⟩
            case round =>
              obtain ⟨j, x, rfl, hx, hj, hj0, HB2⟩ := hrel
              obtain ⟨m, rfl⟩ : ∃ m, j = m + 1 := ⟨j - 1, by omega⟩
              obtain rfl : x = (m : Int) := by have := hx.out; omega
              obtain ⟨oa', oc', ee', hoj⟩ := HRO.out
              obtain ⟨rfl, rfl⟩ : ba = oa' ∧ bcap = oc' := by simpa using ee'
              obtain ⟨ob, ooff, rfl, cm⟩ := hoj m (by omega)
              clear ee' hoj
              have hmz : (m : Int) < (O.length : Int) := by omega
              have hm0 : (0 : Int) ≤ (m : Int) := by omega
              have hdm : decide ((0 : Int) ≤ (m : Int)) = true := decide_eq_true hm0
              by_cases hmk : m = k0
              · have hmk' : k0 = m := hmk.symm
                subst hmk'
                have hcp := HAT.out
                have HOM : Hid (wo.cell? ⟨ob, ooff + k0, none⟩ = some (.int .i32 (O.getD k0 0))) := cm
                obtain ⟨om, hom⟩ : ∃ om, O.getD k0 0 = om := ⟨_, rfl⟩
                rw [hom] at hcp cm
                have hbzA : Below wo.heap.size wo wr.drew := HB2.out.drew
                have HZA : Hid (∀ W, Below wo.heap.size wo W → W.cell? ⟨w.heap.size, 0, none⟩ = some (.slice a t.rows.length cap) ∧ W.cell? ⟨w.heap.size, 1, none⟩ = some (.slice ca t.cls.length ccap) ∧ W.cell? ⟨w.heap.size, 2, none⟩ = some (.slice ea t.exc.length ecap) ∧ W.cell? ⟨ob, ooff + k0, none⟩ = some (.int .i32 om)) := fun W hW => ⟨(HLR.out W hW).1.1, (HLR.out W hW).1.2.1, (HLR.out W hW).1.2.2, (hW.cell (lt_of_cell cm)).trans cm⟩
                have hzA := HZA.out _ hbzA
                clear hx cm
                have HHO := Hid.mk' hom
                clear hom
                go_wp2
                go_region_held3 (fun W => W.cell? ⟨w.heap.size, 0, none⟩ = some (.slice a t.rows.length cap) ∧ W.cell? ⟨w.heap.size, 1, none⟩ = some (.slice ca t.cls.length ccap) ∧ W.cell? ⟨w.heap.size, 2, none⟩ = some (.slice ea t.exc.length ecap) ∧ W.cell? ⟨ob, ooff + k0, none⟩ = some (.int .i32 om)) (first | exact hzA | exact HZA.out _ (by assumption)) (first | (go_at_call 95; refine (HK.out _ om ?_).mono ?_; exact (HLR.out _ (by assumption)).2.2.1; rintro e wA ⟨rfl, hbA⟩; have hBA : Below wo.heap.size wo wA := hbzA.trans (hbA.mono hbzA.size)))
                clear hzA HZA hbA hbzA
                clear HOM HHO HAT HAB
                go_wp2
                clear hcp
                go_loopw [8, 9] (fun tb kk wr => ∃ (bb : Bool) (q : Nat) (z : Int), tb = .bool bb ∧ kk = .int .i64 z ∧ Hid (z = q) ∧ k0 < q ∧ q ≤ O.length ∧ Hid (bb = true) ∧ Hid (Below wo.heap.size wo wr)) (fun _ kk _ => O.length - (intOf kk).toNat)
                case atStart => exact ⟨true, k0 + 1, (k0 : Int) + 1, by first | rfl | simp, rfl, by show _ = _; omega, by omega, by omega, rfl, hBA⟩
                case round =>
                  obtain ⟨bb, q, z, rfl, rfl, hz, hq1, hq2, hqi, HB2⟩ := hrel
                  obtain rfl : z = (q : Int) := hz.out
                  clear hz
                  cases bb
                  · exact absurd hqi.out (by decide)
                  · by_cases hqn : q < O.length
                    · have hqz : (q : Int) < (O.length : Int) := by omega
                      obtain ⟨oa', oc', ee', hoj⟩ := HRO.out
                      obtain ⟨rfl, rfl⟩ : some (⟨ob, ooff, none⟩ : Addr) = oa' ∧ bcap = oc' := by simpa using ee'
                      obtain ⟨ob2, ooff2, ee2, cm⟩ := hoj q (by omega)
                      obtain ⟨rfl, rfl⟩ : ob = ob2 ∧ ooff = ooff2 := by simpa using ee2
                      clear ee' ee2 hoj
                      have hmz : (q : Int) < (O.length : Int) := by omega
                      have hm0 : (0 : Int) ≤ (q : Int) := by omega
                      have hlt' := HTT.out q hq1 hqn
                      clear hqi
                      generalize O.getD q 0 = om at *
                      have hbzB : Below wo.heap.size wo wr.drew := HB2.out.drew
                      have HZB : Hid (∀ W, Below wo.heap.size wo W → W.cell? ⟨w.heap.size, 0, none⟩ = some (.slice a t.rows.length cap) ∧ W.cell? ⟨w.heap.size, 1, none⟩ = some (.slice ca t.cls.length ccap) ∧ W.cell? ⟨w.heap.size, 2, none⟩ = some (.slice ea t.exc.length ecap) ∧ W.cell? ⟨ob, ooff + q, none⟩ = some (.int .i32 om)) := fun W hW => ⟨(HLR.out W hW).1.1, (HLR.out W hW).1.2.1, (HLR.out W hW).1.2.2, (hW.cell (lt_of_cell cm)).trans cm⟩
                      have hzB := HZB.out _ hbzB
                      clear cm
                      go_wp2
                      go_region_held3 (fun W => W.cell? ⟨w.heap.size, 0, none⟩ = some (.slice a t.rows.length cap) ∧ W.cell? ⟨w.heap.size, 1, none⟩ = some (.slice ca t.cls.length ccap) ∧ W.cell? ⟨w.heap.size, 2, none⟩ = some (.slice ea t.exc.length ecap) ∧ W.cell? ⟨ob, ooff + q, none⟩ = some (.int .i32 om)) (first | exact hzB | exact HZB.out _ (by assumption)) (first | (go_at_call 95; refine (HK.out _ om ?_).mono ?_; exact (HLR.out _ (by assumption)).2.2.1; rintro e wB ⟨rfl, hbB⟩; have hBB : Below wo.heap.size wo wB := hbzB.trans (hbB.mono hbzB.size)))
                      clear hzB HZB hbB hbzB
                      have HB4 := Hid.mk' hBB
                      clear hBB
                      have hbzC : Below wo.heap.size wo wB.drew := HB4.out.drew
                      have HZC : Hid (∀ W, Below wo.heap.size wo W → W.cell? ⟨w.heap.size, 0, none⟩ = some (.slice a t.rows.length cap) ∧ W.cell? ⟨w.heap.size, 1, none⟩ = some (.slice ca t.cls.length ccap) ∧ W.cell? ⟨w.heap.size, 2, none⟩ = some (.slice ea t.exc.length ecap) ∧ W.cell? ⟨b, off + k, none⟩ = some (.int .i32 r)) := fun W hW => ⟨(HLR.out W hW).1.1, (HLR.out W hW).1.2.1, (HLR.out W hW).1.2.2, (HLR.out W hW).2.1⟩
                      have hzC := HZC.out _ hbzC
                      go_wp2
                      have hdd : decide (classOf t.cls r ≤ classOf t.cls om) = false := decide_eq_false (by omega)
                      go_region_held3 (fun W => W.cell? ⟨w.heap.size, 0, none⟩ = some (.slice a t.rows.length cap) ∧ W.cell? ⟨w.heap.size, 1, none⟩ = some (.slice ca t.cls.length ccap) ∧ W.cell? ⟨w.heap.size, 2, none⟩ = some (.slice ea t.exc.length ecap) ∧ W.cell? ⟨b, off + k, none⟩ = some (.int .i32 r)) (first | exact hzC | exact HZC.out _ (by assumption)) (first | (go_at_call 95; refine (HK.out _ r ?_).mono ?_; exact (HLR.out _ (by assumption)).2.2.1; rintro e wC ⟨rfl, hbC⟩; have hBC : Below wo.heap.size wo wC := hbzC.trans (hbC.mono hbzC.size)))
                      clear hzC HZC hbC hbzC
                      go_wp2
                      go_roundw
                      case rel => exact ⟨true, q + 1, (q : Int) + 1, rfl, rfl, by show _ = _; omega, by omega, by omega, rfl, hBC⟩
                      case measure => (simp [intOf]; try omega)
                    · obtain rfl : q = O.length := by omega
                      have hk00 : (0 : Int) ≤ (k0 : Int) := by omega
                      obtain ⟨oa', oc', ee', hoj⟩ := HRO.out
                      obtain ⟨rfl, rfl⟩ : some (⟨ob, ooff, none⟩ : Addr) = oa' ∧ bcap = oc' := by simpa using ee'
                      obtain ⟨ob2, ooff2, ee2, cm⟩ := hoj k0 (by omega)
                      obtain ⟨rfl, rfl⟩ : ob = ob2 ∧ ooff = ooff2 := by simpa using ee2
                      clear ee' ee2 hoj
                      have hmz : (k0 : Int) < (O.length : Int) := by omega
                      have hm0 : (0 : Int) ≤ (k0 : Int) := by omega
                      generalize O.getD k0 0 = om at *
                      have hbzD : Below wo.heap.size wo wr.drew := HB2.out.drew
                      have HZD : Hid (∀ W, Below wo.heap.size wo W → W.cell? ⟨w.heap.size, 0, none⟩ = some (.slice a t.rows.length cap) ∧ W.cell? ⟨w.heap.size, 1, none⟩ = some (.slice ca t.cls.length ccap) ∧ W.cell? ⟨w.heap.size, 2, none⟩ = some (.slice ea t.exc.length ecap) ∧ W.cell? ⟨ob, ooff + k0, none⟩ = some (.int .i32 om) ∧ W.cell? ⟨b, off + k, none⟩ = some (.int .i32 r)) := fun W hW => ⟨(HLR.out W hW).1.1, (HLR.out W hW).1.2.1, (HLR.out W hW).1.2.2, (hW.cell (lt_of_cell cm)).trans cm, (HLR.out W hW).2.1⟩
                      have hzD := HZD.out _ hbzD
                      go_wp2
                      go_region_held3 (fun W => W.cell? ⟨w.heap.size, 0, none⟩ = some (.slice a t.rows.length cap) ∧ W.cell? ⟨w.heap.size, 1, none⟩ = some (.slice ca t.cls.length ccap) ∧ W.cell? ⟨w.heap.size, 2, none⟩ = some (.slice ea t.exc.length ecap) ∧ W.cell? ⟨ob, ooff + k0, none⟩ = some (.int .i32 om) ∧ W.cell? ⟨b, off + k, none⟩ = some (.int .i32 r)) (first | exact hzD | exact HZD.out _ (by assumption)) (first | (go_at_call 102; refine (HPx.out _ ?_).mono ?_; exact (HLR.out _ (by assumption)).2.2.1; rintro e wD ⟨rfl, hbD⟩; have hBD : Below wo.heap.size wo wD := hbzD.trans (hbD.mono hbzD.size)))
                      clear hzD HZD hbD hbzD
                      have hown := owns_below HO.out hBD
                      obtain ⟨g, rfl, rfl⟩ : ∃ g, ob = g ∧ ooff = 0 := by
                        rcases hown.2 with ⟨e, -⟩ | ⟨g, c, cur, e, -⟩
                        · cases e
                        · simp at e; exact ⟨g, e.1.1, e.1.2⟩
                      have fk := hown.frozenAt k0
                      have ck0 : wD.cell? ⟨ob, k0, none⟩ = some (.int .i32 om) := by
                        have := (hBD.cell (lt_of_cell cm)).trans cm
                        simpa using this
                      have hs2 := (hown.stored k0 (.int .i32 y)).1
                      rw [map_set_int] at hs2
                      have hgB : w.heap.size + 1 ≤ ob := (hown.lt ob rfl).1
                      have HO9 : Hid ((wD.setCell ⟨ob, k0, none⟩ (.int .i32 y)).ownsRow (w.heap.size + 1) 21 1 (.slice (some ⟨ob, 0, none⟩) (putM (classOf t.cls) (pairM t) (l.take (k + 1))).length bcap) (putM (classOf t.cls) (pairM t) (l.take (k + 1))).length ((putM (classOf t.cls) (pairM t) (l.take (k + 1))).map (Value.int .i32))) := by
                        rw [HNXk.out, List.length_set]
                        exact hs2
                      have hle9 : (putM (classOf t.cls) (pairM t) (l.take (k + 1))).length = O.length := by rw [HNXk.out, List.length_set]
                      rw [hle9] at HO9
                      have HL9 := Hid.mk' hle9
                      have HB9 : Hid (Below (w.heap.size + 1) W0 (wD.setCell ⟨ob, k0, none⟩ (.int .i32 y))) := (HLR.out wD hBD).2.2.2.setCell (p := ⟨ob, k0, none⟩) hgB _
                      clear hs2 hown hle9 cm
                      simp only [Nat.zero_add] at *
                      go_wp2
                      go_roundw
                      case rel => exact ⟨k + 1, by go_num, by omega, by rw [HL9.out]; exact HO9, HB9⟩
                      case measure => (simp [intOf]; try omega)
              · have hcp := HAB.out m (by omega) (by omega)
                generalize O.getD m 0 = om at *
                have hbzA : Below wo.heap.size wo wr.drew := HB2.out.drew
                have HZA : Hid (∀ W, Below wo.heap.size wo W → W.cell? ⟨w.heap.size, 0, none⟩ = some (.slice a t.rows.length cap) ∧ W.cell? ⟨w.heap.size, 1, none⟩ = some (.slice ca t.cls.length ccap) ∧ W.cell? ⟨w.heap.size, 2, none⟩ = some (.slice ea t.exc.length ecap) ∧ W.cell? ⟨ob, ooff + m, none⟩ = some (.int .i32 om)) := fun W hW => ⟨(HLR.out W hW).1.1, (HLR.out W hW).1.2.1, (HLR.out W hW).1.2.2, (hW.cell (lt_of_cell cm)).trans cm⟩
                have hzA := HZA.out _ hbzA
                clear hx cm
                go_wp2
                go_region_held3 (fun W => W.cell? ⟨w.heap.size, 0, none⟩ = some (.slice a t.rows.length cap) ∧ W.cell? ⟨w.heap.size, 1, none⟩ = some (.slice ca t.cls.length ccap) ∧ W.cell? ⟨w.heap.size, 2, none⟩ = some (.slice ea t.exc.length ecap) ∧ W.cell? ⟨ob, ooff + m, none⟩ = some (.int .i32 om)) (first | exact hzA | exact HZA.out _ (by assumption)) (first | (go_at_call 95; refine (HK.out _ om ?_).mono ?_; exact (HLR.out _ (by assumption)).2.2.1; rintro e wA ⟨rfl, hbA⟩; have hBA : Below wo.heap.size wo wA := hbzA.trans (hbA.mono hbzA.size)))
                clear hzA HZA hbA hbzA
                go_wp2
                go_roundw
                case rel => exact ⟨m, (m : Int) - 1, rfl, rfl, by omega, by omega, hBA⟩
                case measure => (simp [intOf]; try omega)
    · obtain rfl : k = l.length := by omega
      rw [HALL.out] at HO
      have HO9 := Hid.mk' (own_weaken (B := w.heap.size) HO.out (by omega))
      rw [HALL.out]
      clear HO
      go_wp2
      go_ret
      exact ⟨_, rfl, HO9.out, hbw⟩
end Go.Proofs.YtoceaielclomcaaRRGreatDoor
namespace Go.Proofs.YtoceaielclomcaaRRGreatDoor
open Go.RowKit Go.Sort

/-- runes taken apart -/
def decM (t : Nm) (l : List Int) : List Int := orderM (classOf t.cls) (apartM t.rows l)
/-- the composed form -/
def compM (t : Nm) (l : List Int) : List Int := putM (classOf t.cls) (pairM t) (decM t l)
theorem decM_len (t : Nm) (l : List Int) : (decM t l).length = (apartM t.rows l).length := (orderM_perm _ _).length_eq
theorem decAll_any (a : Option Addr) (cap : Nat) (vc ve : Value) (t : Nm) (v : Value) (l : List Int) (w : World) (hg : Hg w) (hN : NormAt w a cap vc ve t) (hv : Runes w v l) (hbig : (apartM t.rows l).length ≤ 2147483) (hll : l.length ≤ 2147483) :
    Calls Tryz.prog 59 #[.agg #[.slice a t.rows.length cap, vc, ve], v] w fun e w' => ∃ v', e = .returned v' ∧ w'.ownsRow w.heap.size 21 1 v' (decM t l).length ((decM t l).map (Value.int .i32)) ∧ Below w.heap.size w w' := by
  obtain ⟨-, -, hap, hri⟩ := right_parts hN.right.cls
  rw [decM_len]
  exact all_any a cap vc ve t.rows hN.cap t.cls v l w hg hN.R hN.right.len hN.right.row hN.C (by have := hN.lc; omega) hri hap hv (by omega) (by omega)
theorem refDecAll_any (a : Option Addr) (cap : Nat) (vc ve : Value) (t : Nm) (v : Value) (l : List Int) (w : World) (hN : NormAt w a cap vc ve t) (hv : Runes w v l) (hbig : (apartM t.rows l).length ≤ 2147483) (hll : l.length ≤ 2147483) :
    Calls Tryz.prog 70 #[.agg #[.slice a t.rows.length cap, vc, ve], v] w fun e w' => ∃ v', e = .returned v' ∧ w'.ownsRow w.heap.size 21 1 v' (decM t l).length ((decM t l).map (Value.int .i32)) ∧ Below w.heap.size w w' := by
  have hlc := hN.lc
  rw [decM_len]
  exact refAll_of (.slice a t.rows.length cap) vc ve t.rows (classOf t.cls) v l w hN.R hN.right.len hN.right.row (fun W2 v2 rs hb2 hr2 hrl => refOrder_any (.slice a t.rows.length cap) vc ve t.cls v2 rs W2 (hN.C.below hb2) (by omega) (class_254 hN.right.clsC) hr2 hrl) hv (by omega) (by omega)
set_option maxRecDepth 20000 in
set_option maxHeartbeats 4000000 in
theorem compAll_any (a : Option Addr) (cap : Nat) (vc ve : Value) (t : Nm) (v : Value) (l : List Int) (w : World) (hg : Hg w) (hN : NormAt w a cap vc ve t) (hv : Runes w v l) (hbig : (apartM t.rows l).length ≤ 2147483) (hll : l.length ≤ 2147483) :
    Calls Tryz.prog 34 #[.agg #[.slice a t.rows.length cap, vc, ve], v] w fun e w' => ∃ v', e = .returned v' ∧ w'.ownsRow w.heap.size 21 1 v' (compM t l).length ((compM t l).map (Value.int .i32)) ∧ Below w.heap.size w w' := by
  obtain ⟨W0, hW0, hsz, hb0, e0, e1, e2⟩ := norm_box w (.slice a t.rows.length cap) vc ve
  have HAL : Hid (∀ W, Below w.heap.size w W → _) := fun W hb => decAll_any a cap vc ve t v l W (hg.below hb) (hN.below hb) (hv.below hb) hbig hll
  have HPU : Hid (∀ W v2, Below w.heap.size w W → Runes W v2 (decM t l) → _) := fun W v2 hb hr => put_any a cap vc ve t v2 (decM t l) W (hN.below hb) hr (by rw [decM_len]; exact hbig)
  obtain ⟨va, vcp, rfl, -⟩ := id hv
  obtain ⟨ca, ccap, rfl, -⟩ := id hN.C
  obtain ⟨ea, ecap, rfl, -⟩ := id hN.E
  have HEE : Hid (∀ W, Below W0.heap.size W0 W → (W.cell? ⟨w.heap.size, 0, none⟩ = some (.slice a t.rows.length cap) ∧ W.cell? ⟨w.heap.size, 1, none⟩ = some (.slice ca t.cls.length ccap) ∧ W.cell? ⟨w.heap.size, 2, none⟩ = some (.slice ea t.exc.length ecap)) ∧ Below w.heap.size w W) := fun W hb => ⟨⟨(hb.cell (lt_of_cell e0)).trans e0, (hb.cell (lt_of_cell e1)).trans e1, (hb.cell (lt_of_cell e2)).trans e2⟩, hb0.trans (hb.mono hb0.size)⟩
  have HTR : Hid (∀ W W', Below W0.heap.size W0 W → Below W.heap.size W W' → Below W0.heap.size W0 W') := fun W W' h h' => h.trans (h'.mono h.size)
  show Calls _ _ _ _ fun e w' => ∃ v', e = .returned v' ∧ w'.ownsRow w.heap.size 21 1 v' (putM (classOf t.cls) (pairM t) (decM t l)).length ((putM (classOf t.cls) (pairM t) (decM t l)).map (Value.int .i32)) ∧ Below w.heap.size w w'
  generalize putM (classOf t.cls) (pairM t) (decM t l) = res at *
  generalize decM t l = dl at *
  have hzb : Below W0.heap.size W0 W0.drew := (Below.refl _ _).drew
  have hz := HEE.out W0.drew hzb
  have HW := Hid.mk' (HEE.out W0 (Below.refl _ _)).2.size
  clear hg hN hv e0 e1 e2 hbig hll hb0
  go_enter Tryz.func34, Tryz.ntmps34
  go_wp2
  go_region_held3 (fun w' => (w'.cell? ⟨w.heap.size, 0, none⟩ = some (.slice a t.rows.length cap) ∧ w'.cell? ⟨w.heap.size, 1, none⟩ = some (.slice ca t.cls.length ccap) ∧ w'.cell? ⟨w.heap.size, 2, none⟩ = some (.slice ea t.exc.length ecap))) (first | exact hz.1 | exact (HEE.out _ (by assumption)).1) (first
    | (go_at_call 59; refine (HAL.out _ ?_).mono ?_; exact (HEE.out _ (by assumption)).2; rintro e wA ⟨vA, rfl, hoA, hbA⟩; obtain ⟨aA, cA, rfl⟩ := own_slice hoA; have rA := Runes.own hoA; have hzA := HTR.out _ _ hzb hbA)
    | (go_at_call 58; refine (HPU.out _ _ ?_ rA).mono ?_; exact (HEE.out _ (by assumption)).2; rintro e wB ⟨vB, rfl, hoB, hbB⟩; obtain ⟨aB, cB, rfl⟩ := own_slice hoB; have hzB := HTR.out _ _ hzA hbB))
  all_goals
    go_wp2
    go_ret
    exact ⟨_, rfl, own_weaken hoB (HEE.out _ hzA).2.size, (HEE.out _ hzB).2⟩
set_option maxRecDepth 20000 in
set_option maxHeartbeats 4000000 in
theorem refCompAll_any (a : Option Addr) (cap : Nat) (vc ve : Value) (t : Nm) (v : Value) (l : List Int) (w : World) (hN : NormAt w a cap vc ve t) (hv : Runes w v l) (hbig : (apartM t.rows l).length ≤ 2147483) (hll : l.length ≤ 2147483) :
    Calls Tryz.prog 40 #[.agg #[.slice a t.rows.length cap, vc, ve], v] w fun e w' => ∃ v', e = .returned v' ∧ w'.ownsRow w.heap.size 21 1 v' (compM t l).length ((compM t l).map (Value.int .i32)) ∧ Below w.heap.size w w' := by
  obtain ⟨W0, hW0, hsz, hb0, e0, e1, e2⟩ := norm_box w (.slice a t.rows.length cap) vc ve
  have HAL : Hid (∀ W, Below w.heap.size w W → _) := fun W hb => refDecAll_any a cap vc ve t v l W (hN.below hb) (hv.below hb) hbig hll
  have HPU : Hid (∀ W v2, Below w.heap.size w W → Runes W v2 (decM t l) → _) := fun W v2 hb hr => refPut_any a cap vc ve t v2 (decM t l) W (hN.below hb) hr (by rw [decM_len]; exact hbig)
  obtain ⟨va, vcp, rfl, -⟩ := id hv
  obtain ⟨ca, ccap, rfl, -⟩ := id hN.C
  obtain ⟨ea, ecap, rfl, -⟩ := id hN.E
  have HEE : Hid (∀ W, Below W0.heap.size W0 W → (W.cell? ⟨w.heap.size, 0, none⟩ = some (.slice a t.rows.length cap) ∧ W.cell? ⟨w.heap.size, 1, none⟩ = some (.slice ca t.cls.length ccap) ∧ W.cell? ⟨w.heap.size, 2, none⟩ = some (.slice ea t.exc.length ecap)) ∧ Below w.heap.size w W) := fun W hb => ⟨⟨(hb.cell (lt_of_cell e0)).trans e0, (hb.cell (lt_of_cell e1)).trans e1, (hb.cell (lt_of_cell e2)).trans e2⟩, hb0.trans (hb.mono hb0.size)⟩
  have HTR : Hid (∀ W W', Below W0.heap.size W0 W → Below W.heap.size W W' → Below W0.heap.size W0 W') := fun W W' h h' => h.trans (h'.mono h.size)
  show Calls _ _ _ _ fun e w' => ∃ v', e = .returned v' ∧ w'.ownsRow w.heap.size 21 1 v' (putM (classOf t.cls) (pairM t) (decM t l)).length ((putM (classOf t.cls) (pairM t) (decM t l)).map (Value.int .i32)) ∧ Below w.heap.size w w'
  generalize putM (classOf t.cls) (pairM t) (decM t l) = res at *
  generalize decM t l = dl at *
  have hzb : Below W0.heap.size W0 W0.drew := (Below.refl _ _).drew
  have hz := HEE.out W0.drew hzb
  clear hN hv e0 e1 e2 hbig hll hb0
  go_enter Tryz.func40, Tryz.ntmps40
  go_wp2
  go_region_held3 (fun w' => (w'.cell? ⟨w.heap.size, 0, none⟩ = some (.slice a t.rows.length cap) ∧ w'.cell? ⟨w.heap.size, 1, none⟩ = some (.slice ca t.cls.length ccap) ∧ w'.cell? ⟨w.heap.size, 2, none⟩ = some (.slice ea t.exc.length ecap))) (first | exact hz.1 | exact (HEE.out _ (by assumption)).1) (first
    | (go_at_call 70; refine (HAL.out _ ?_).mono ?_; exact (HEE.out _ (by assumption)).2; rintro e wA ⟨vA, rfl, hoA, hbA⟩; obtain ⟨aA, cA, rfl⟩ := own_slice hoA; have rA := Runes.own hoA; have hzA := HTR.out _ _ hzb hbA)
    | (go_at_call 69; refine (HPU.out _ _ ?_ rA).mono ?_; exact (HEE.out _ (by assumption)).2; rintro e wB ⟨vB, rfl, hoB, hbB⟩; obtain ⟨aB, cB, rfl⟩ := own_slice hoB; have hzB := HTR.out _ _ hzA hbB))
  all_goals
    go_wp2
    go_ret
    exact ⟨_, rfl, own_weaken hoB (HEE.out _ hzA).2.size, (HEE.out _ hzB).2⟩
end Go.Proofs.YtoceaielclomcaaRRGreatDoor
namespace Go.Proofs.YtoceaielclomcaaRRGreatDoor
open Go.RowKit

theorem exNorm_comp1 : compM exNorm [101, 769] = [233] := by decide
theorem exNorm_comp2 : compM exNorm [4352, 4449, 4520] = [44033] := by decide
theorem exNorm_ap1 : (apartM exNorm.rows [101, 769]).length ≤ 2147483 := by decide
theorem exNorm_ap2 : (apartM exNorm.rows [4352, 4449, 4520]).length ≤ 2147483 := by decide
set_option maxRecDepth 20000 in
set_option maxHeartbeats 4000000 in
theorem awake5_any (w : World) (hg : Hg w) :
    Calls Tryz.prog 13 #[] w fun e w' => e = .returned (.bool true) ∧ Below w.heap.size w w' := by
  obtain ⟨W1, hW1⟩ : ∃ W1, w.alloc (.cells #[.int .i32 101, .int .i32 769] 21) = W1 := ⟨_, rfl⟩
  have z1 : W1.heap.size = w.heap.size + 1 := by rw [← hW1, World.size_alloc]
  have R1 : Runes W1 (.slice (some ⟨w.heap.size, 0, none⟩) 2 2) [101, 769] := by rw [← hW1]; exact runes_new w [101, 769]
  have b1 : Below w.heap.size w W1 := by rw [← hW1]; exact (Below.refl _ _).alloc (Nat.le_refl _) _
  obtain ⟨W2, hW2⟩ : ∃ W2, W1.alloc (.cells #[.int .i32 233, .slice (some ⟨w.heap.size, 0, none⟩) 2 2] 74) = W2 := ⟨_, rfl⟩
  have z2 : W2.heap.size = w.heap.size + 2 := by rw [← hW2, World.size_alloc, z1]
  have b2 : Below W1.heap.size W1 W2 := by rw [← hW2]; exact (Below.refl _ _).alloc (Nat.le_refl _) _
  have R2 : Rows4 W2 (.slice (some ⟨w.heap.size + 1, 0, none⟩) 1 1) exNorm.rows := by
    refine ⟨_, _, rfl, fun j hj => ?_⟩
    obtain rfl : j = 0 := by simp [exNorm] at hj; omega
    refine ⟨w.heap.size + 1, 0, .slice (some ⟨w.heap.size, 0, none⟩) 2 2, rfl, ?_, ?_, R1.below b2⟩
    · rw [← hW2, ← z1, World.cell?_alloc_new]; rfl
    · rw [← hW2, ← z1, World.cell?_alloc_new]; rfl
  obtain ⟨W3, hW3⟩ : ∃ W3, W2.alloc (.cells #[.int .i32 769, .int .i32 769, .int .i64 230] 28) = W3 := ⟨_, rfl⟩
  have z3 : W3.heap.size = w.heap.size + 3 := by rw [← hW3, World.size_alloc, z2]
  have b3 : Below W2.heap.size W2 W3 := by rw [← hW3]; exact (Below.refl _ _).alloc (Nat.le_refl _) _
  have R3 : Tab W3 (.slice (some ⟨w.heap.size + 2, 0, none⟩) 1 1) exNorm.cls := by
    refine ⟨_, _, rfl, fun j hj => ⟨w.heap.size + 2, 0, rfl, fun i hi => ?_⟩⟩
    obtain rfl : j = 0 := by simp [exNorm] at hj; omega
    rw [Nat.zero_mul, Nat.add_zero, Nat.zero_add, ← hW3, ← z2, World.cell?_alloc_new]
    simp [Rg.cells, exNorm]
  obtain ⟨W4, hW4⟩ : ∃ W4, W3.alloc (.cells #[.slice (some ⟨w.heap.size + 1, 0, none⟩) 1 1, .slice (some ⟨w.heap.size + 2, 0, none⟩) 1 1, .slice none 0 0] 39) = W4 := ⟨_, rfl⟩
  have z4 : W4.heap.size = w.heap.size + 4 := by rw [← hW4, World.size_alloc, z3]
  have b4 : Below W3.heap.size W3 W4 := by rw [← hW4]; exact (Below.refl _ _).alloc (Nat.le_refl _) _
  have b04 : Below w.heap.size w W4 := b1.trans ((b2.trans ((b3.trans (b4.mono (by omega))).mono (by omega))).mono (by omega))
  have b24 : Below W2.heap.size W2 W4 := b3.trans (b4.mono (by omega))
  have e0 : W4.cell? ⟨w.heap.size + 3, 0, none⟩ = some (.slice (some ⟨w.heap.size + 1, 0, none⟩) 1 1) := by rw [← hW4, ← z3, World.cell?_alloc_new]; rfl
  have e1 : W4.cell? ⟨w.heap.size + 3, 1, none⟩ = some (.slice (some ⟨w.heap.size + 2, 0, none⟩) 1 1) := by rw [← hW4, ← z3, World.cell?_alloc_new]; rfl
  have e2 : W4.cell? ⟨w.heap.size + 3, 2, none⟩ = some (.slice none 0 0) := by rw [← hW4, ← z3, World.cell?_alloc_new]; rfl
  have HN : Hid (∀ W, Below W4.heap.size W4 W → NormAt W (some ⟨w.heap.size + 1, 0, none⟩) 1 (.slice (some ⟨w.heap.size + 2, 0, none⟩) 1 1) (.slice none 0 0) exNorm) := fun W hb => ⟨(R2.below b24).below hb, (R3.below b4).below hb, runes_nil _, by decide, by decide, right4 (by rw [exNorm_chk])⟩
  have HG : Hid (∀ W, Below W4.heap.size W4 W → Hg W) := fun W hb => (hg.below b04).below hb
  have HE : Hid (∀ W, Below W4.heap.size W4 W → W.cell? ⟨w.heap.size + 3, 0, none⟩ = some (.slice (some ⟨w.heap.size + 1, 0, none⟩) 1 1) ∧ W.cell? ⟨w.heap.size + 3, 1, none⟩ = some (.slice (some ⟨w.heap.size + 2, 0, none⟩) 1 1) ∧ W.cell? ⟨w.heap.size + 3, 2, none⟩ = some (.slice none 0 0)) := fun W hb => ⟨(hb.cell (lt_of_cell e0)).trans e0, (hb.cell (lt_of_cell e1)).trans e1, (hb.cell (lt_of_cell e2)).trans e2⟩
  have HAL : Hid (∀ W rs out, Below W4.heap.size W4 W → compM exNorm rs = out → (apartM exNorm.rows rs).length ≤ 2147483 → rs.length ≤ 2147483 → Calls Tryz.prog 34 #[.agg #[.slice (some ⟨w.heap.size + 1, 0, none⟩) 1 1, .slice (some ⟨w.heap.size + 2, 0, none⟩) 1 1, .slice none 0 0], .slice (some ⟨W.heap.size, 0, none⟩) rs.length rs.length] (W.alloc (.cells (rs.map (Value.int .i32)).toArray 21)) fun e w' => ∃ v, e = .returned v ∧ Runes w' v out ∧ Below W.heap.size W w') := fun W rs out hb ho h1 h2 => by
    have hbA : Below W.heap.size W (W.alloc (.cells (rs.map (Value.int .i32)).toArray 21)) := (Below.refl _ _).alloc (Nat.le_refl _) _
    have hb' := hb.trans (hbA.mono hb.size)
    refine (compAll_any (some ⟨w.heap.size + 1, 0, none⟩) 1 _ _ exNorm _ rs _ (HG.out _ hb') (HN.out _ hb') (runes_new W rs) h1 h2).mono ?_
    rintro e w' ⟨v, rfl, hown, hb2⟩
    rw [ho] at hown
    exact ⟨v, rfl, Runes.own hown, hbA.trans (hb2.mono hbA.size)⟩
  have HS : Hid (∀ W v rs, Runes W v rs → rs.length ≤ 268435456 → Calls Tryz.prog 33 #[v, .slice (some ⟨W.heap.size, 0, none⟩) rs.length rs.length] (W.alloc (.cells (rs.map (Value.int .i32)).toArray 21)) fun e w' => e = .returned (.bool true) ∧ Below W.heap.size W w') := fun W v rs hv hl => by
    refine (same_any v _ rs (W.alloc (.cells (rs.map (Value.int .i32)).toArray 21)) hl (hv.below ((Below.refl _ _).alloc (Nat.le_refl _) _)) (runes_new W rs)).mono ?_
    rintro e w' ⟨rfl, hb⟩
    exact ⟨rfl, ((Below.refl _ _).alloc (Nat.le_refl _) _).trans (hb.mono (by simp))⟩
  have HB04 := Hid.mk' b04
  have Hsz : Hid (w.heap.size ≤ W4.heap.size) := by show _ ≤ _; omega
  have HW4 := Hid.mk' hW4
  have HA1 : Hid (∀ b, b = W4.heap.size → Calls Tryz.prog 34 #[.agg #[.slice (some ⟨w.heap.size + 1, 0, none⟩) 1 1, .slice (some ⟨w.heap.size + 2, 0, none⟩) 1 1, .slice none 0 0], .slice (some ⟨b, 0, none⟩) 2 2] (W4.alloc (.cells #[.int .i32 101, .int .i32 769] 21)) fun e w' => ∃ v, e = .returned v ∧ Runes w' v [233] ∧ Below W4.heap.size W4 w') := fun b hb => by
    subst hb
    exact HAL.out W4 [101, 769] [233] (Below.refl _ _) exNorm_comp1 exNorm_ap1 (by decide)
  clear hg R1 R2 R3 b1 b2 b3 b4 b04 b24 HN HG hW4 e0 e1 e2
  go_enter Tryz.func13, Tryz.ntmps13
  go_wp2_with fail
  rw [HW4.out]
  refine (HA1.out _ ?_).mono ?_
  · omega
  rintro e w5 ⟨v5, rfl, r5, hb5⟩
  have HS5 := Hid.mk' (HS.out w5 v5 [233] r5 (by decide))
  obtain ⟨va, vc, rfl, -⟩ := r5
  go_wp2_with fail
  refine HS5.out.mono ?_
  rintro e w6 ⟨rfl, hb6⟩
  have hb46 := hb5.trans (hb6.mono hb5.size)
  obtain ⟨p0, p1, p2⟩ := HE.out w6 hb46
  have HA2 := Hid.mk' (HAL.out w6 [4352, 4449, 4520] [44033] hb46 exNorm_comp2 exNorm_ap2 (by decide))
  go_wp2_with fail
  refine HA2.out.mono ?_
  rintro e w7 ⟨v7, rfl, r7, hb7⟩
  have hb47 := hb46.trans (hb7.mono hb46.size)
  have HS7 := Hid.mk' (HS.out w7 v7 [44033] r7 (by decide))
  obtain ⟨vb, vd, rfl, -⟩ := r7
  clear p0 p1 p2
  go_wp2_with fail
  refine HS7.out.mono ?_
  rintro e w8 ⟨rfl, hb8⟩
  have hb48 := hb47.trans (hb8.mono hb47.size)
  go_wp2
  go_ret
  exact ⟨rfl, HB04.out.trans (hb48.mono Hsz.out)⟩
end Go.Proofs.YtoceaielclomcaaRRGreatDoor

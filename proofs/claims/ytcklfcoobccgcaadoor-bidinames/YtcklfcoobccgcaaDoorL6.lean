/-
  What is proved here: what the reference's Check of layer 7 answers, of any properties.
-/
import Derived.Test.YtcklfcoobccgcaaDoorL4
import Derived.Test.YtcklfcoobccgcaaDoorE3
namespace Go.Proofs.YtcklfcoobccgcaaDoor
open Go.RowKit Go.Shelf

theorem most_box (w : World) : ∃ W0, w.alloc (.cells #[.int .i64 5, .int .i64 0, .int .i64 0, .int .i64 0, .int .i64 0, .int .i64 0, .int .i64 0, .int .i64 4, .int .i64 5, .int .i64 11, .int .i64 0] 72) = W0 ∧ W0.heap.size = w.heap.size + 1 ∧ Below w.heap.size w W0 ∧ ∀ i, i < 11 → W0.cell? ⟨w.heap.size, i, none⟩ = some (.int .i64 (mst i : Int)) :=
  ⟨_, rfl, by rw [World.size_alloc], (Below.refl _ w).alloc (Nat.le_refl _) _, fun i hi => by
    rcases (by omega : i = 0 ∨ i = 1 ∨ i = 2 ∨ i = 3 ∨ i = 4 ∨ i = 5 ∨ i = 6 ∨ i = 7 ∨ i = 8 ∨ i = 9 ∨ i = 10) with rfl | rfl | rfl | rfl | rfl | rfl | rfl | rfl | rfl | rfl | rfl <;> rw [World.cell?_alloc_new] <;> rfl⟩
set_option maxRecDepth 20000 in
set_option maxHeartbeats 16000000 in
theorem refCheck7_any (a : Nat → Option Addr) (c : Nat → Nat) (t : Nat → List Rg) (w : World) (hT : PT w a c t) (hl : ∀ i, i < 11 → (t i).length ≤ 2147483648) :
    Calls Tryd.prog 22 #[PV a c t] w fun e w' => e = .returned (.tuple #[.int .i64 (chk7 t).1, .int .i64 (chk7 t).2]) ∧ Below w.heap.size w w' := by
  obtain ⟨W0, hW0, hsz0, hb0, hp⟩ := prop_box w a c t
  obtain ⟨W1, hW1, hsz1, hb1, hm⟩ := most_box W0
  have hbw1 : Below w.heap.size w W1 := hb0.trans (hb1.mono hb0.size)
  rw [hsz0] at hsz1 hm
  have hq : PB W1 w.heap.size a c t := hp.below' hb1 (by rw [hsz0]; omega)
  have e0 := hq 0 (by omega)
  have e1 := hq 1 (by omega)
  have e2 := hq 2 (by omega)
  have e3 := hq 3 (by omega)
  have e4 := hq 4 (by omega)
  have e5 := hq 5 (by omega)
  have e6 := hq 6 (by omega)
  have e7 := hq 7 (by omega)
  have e8 := hq 8 (by omega)
  have e9 := hq 9 (by omega)
  have e10 := hq 10 (by omega)
  have f0 := hp 0 (by omega)
  have f1 := hp 1 (by omega)
  have f2 := hp 2 (by omega)
  have f3 := hp 3 (by omega)
  have f4 := hp 4 (by omega)
  have f5 := hp 5 (by omega)
  have f6 := hp 6 (by omega)
  have f7 := hp 7 (by omega)
  have f8 := hp 8 (by omega)
  have f9 := hp 9 (by omega)
  have f10 := hp 10 (by omega)
  have HTB := Hid.mk' (tables_any a c t W1)
  unfold PV at HTB ⊢
  have HBW := Hid.mk' hbw1
  have HM1 : Hid (∀ W, Below W1.heap.size W1 W → ∀ i, i < 11 → W.cell? ⟨w.heap.size + 1, i, none⟩ = some (.int .i64 (mst i : Int))) := fun W hb i hi => (hb.cell (p := ⟨w.heap.size + 1, i, none⟩) (by show w.heap.size + 1 < _; omega)).trans (hm i hi)
  have HC : Hid (∀ W, Below w.heap.size w W → ∀ i, i < 11 → _) := fun W hb i hi => refCheck_any (.slice (a i) (t i).length (c i)) (t i) W ((hT i hi).below hb) (hl i hi)
  have HAT : Hid (∀ k, k < 11 → (∀ i, i < k → (chkT (t i) (mst i)).2 = 0) → (chkT (t k) (mst k)).2 ≠ 0 → chk7 t = chkT (t k) (mst k)) := fun k hk h0 h => chk7_at hk h0 h
  have HNO : Hid ((∀ i, i < 11 → (chkT (t i) (mst i)).2 = 0) → chk7 t = (0, 0)) := chk7_none
  have HLT : Hid (∀ W, Below w.heap.size w W → ∀ k, k < 11 → ∀ j, j < (t k).length → ∃ b off, a k = some ⟨b, off, none⟩ ∧ W.cell? ⟨b, off + j * 3 + 2, none⟩ = some (.int .i64 ((t k).getD j default).val)) := fun W hb k hk j hj => by
    obtain ⟨av, cap, e, hTj⟩ := hT k hk
    obtain ⟨b, off, e2, hc⟩ := hTj j hj
    obtain rfl : a k = av := by injection e
    exact ⟨b, off, e2, (hb.cell (p := ⟨b, off + j * 3 + 2, none⟩) (lt_of_cell (hc 2 (by omega)))).trans (hc 2 (by omega))⟩
  have HL := Hid.mk' hl
  generalize chk7 t = res at *
  clear hp hb0 hb1 hbw1 hm hT hl hq
  subst hW1
  go_enter Tryd.func22, Tryd.ntmps22
  go_wp2_with fail
  refine HTB.out.mono ?_
  rintro e w1 ⟨rfl, hb2⟩
  obtain ⟨W2, hW2, hsz2, hb3, hp3⟩ := elev_box w1 a c t
  have HB2 := Hid.mk' (hb2.trans (hb3.mono hb2.size))
  have hs1 := hb2.size
  have HBW2 := Hid.mk' (HBW.out.trans (HB2.out.mono HBW.out.size))
  have HP : Hid (∀ W, Below W2.heap.size W2 W → PB W w1.heap.size a c t) := fun W hb => hp3.below' hb (by omega)
  have HM : Hid (∀ W, Below W2.heap.size W2 W → ∀ i, i < 11 → W.cell? ⟨w.heap.size + 1, i, none⟩ = some (.int .i64 (mst i : Int))) := fun W hb i hi => HM1.out W (HB2.out.trans (hb.mono HB2.out.size)) i hi
  have HW : Hid (∀ W, Below W2.heap.size W2 W → Below w.heap.size w W) := fun W hb => HBW2.out.trans (hb.mono HBW2.out.size)
  clear e0 f0 e1 f1 e2 f2 e3 f3 e4 f4 e5 f5 e6 f6 e7 f7 e8 f8 e9 f9 e10 f10 hp3 hb3 hb2 hs1
  go_wp2
  go_loopw [6] (fun y wr => ∃ k : Nat, y = .int .i64 k ∧ k ≤ 11 ∧ Hid (∀ i, i < k → (chkT (t i) (mst i)).2 = 0) ∧ Below W2.heap.size W2 wr) (fun y _ => 11 - (intOf y).toNat)
  case atStart => exact ⟨0, rfl, by omega, fun i hi => by omega, Below.refl _ _⟩
  case round =>
    obtain ⟨k, rfl, hk, hok, hb⟩ := hrel
    by_cases hlt : k < 11
    · have q1 := HP.out wr hb k hlt
      have hln := HL.out k hlt
      have HCk := Hid.mk' (HC.out wr (HW.out wr hb) k hlt)
      have HA := Hid.mk' (fun h => HAT.out k hlt hok.out h)
      have HOK : Hid ((chkT (t k) (mst k)).2 = 0 → ∀ i, i < k + 1 → (chkT (t i) (mst i)).2 = 0) := fun hd i hi => by
        rcases Nat.lt_or_ge i k with g | g
        · exact hok.out i g
        · obtain rfl : i = k := by omega
          exact hd
      have HPk : Hid (∀ W, Below W2.heap.size W2 W → W.cell? ⟨w1.heap.size, k, none⟩ = some (.slice (a k) (t k).length (c k)) ∧ W.cell? ⟨w.heap.size + 1, k, none⟩ = some (.int .i64 (mst k : Int))) := fun W hb => ⟨HP.out W hb k hlt, HM.out W hb k hlt⟩
      have HLk : Hid (∀ W, Below W2.heap.size W2 W → ∀ j, j < (t k).length → ∃ b off, a k = some ⟨b, off, none⟩ ∧ W.cell? ⟨b, off + j * 3 + 2, none⟩ = some (.int .i64 ((t k).getD j default).val)) := fun W hb j hj => HLT.out W (HW.out W hb) k hlt j hj
      have HT1 : Hid ((chk (t k)).2 ≠ 0 → chkT (t k) (mst k) = chk (t k)) := fun h => orE_l h
      have HT2 : Hid ((chk (t k)).2 = 0 → ∀ j, j < (t k).length → (∀ i, i < j → kindAt (mst k) (t k) i = 0) → kindAt (mst k) (t k) j ≠ 0 → chkT (t k) (mst k) = (j, 17)) := fun h j hj h0 h1 => by
        show orE _ _ = _
        rw [orE_r h, ff_at _ _ j hj h0 h1]
        have : kindAt (mst k) (t k) j = 17 := by
          unfold kindAt at h1 ⊢
          split
          · rfl
          · rename_i g; rw [if_neg g] at h1; exact absurd rfl h1
        rw [this]
      have HT3 : Hid ((chk (t k)).2 = 0 → (∀ i, i < (t k).length → kindAt (mst k) (t k) i = 0) → (chkT (t k) (mst k)).2 = 0) := fun h h0 => by
        show (orE _ _).2 = _
        rw [orE_r h, ff_none _ _ h0]
      have HK : Hid (∀ j, kindAt (mst k) (t k) j = if 0 < mst k ∧ (((t k).getD j default).val < 1 ∨ (mst k : Int) < ((t k).getD j default).val) then 17 else 0) := fun j => rfl
      generalize chkT (t k) (mst k) = x at *
      generalize t k = l at *
      generalize a k = ak at *
      generalize c k = ck at *
      generalize mst k = mk at *
      have hklz : (k : Int) < 11 := by omega
      go_wp2_with fail
      refine HCk.out.mono ?_
      rintro e w3 ⟨rfl, hb4⟩
      have hb3 := hb.trans (hb4.mono hb.size)
      clear hb4 q1
      by_cases hz : (chk l).2 = 0
      · have hz' : (((chk l).2 : Int) != 0) = false := by rw [hz]; rfl
        have HT2' := Hid.mk' (HT2.out hz)
        have HT3' := Hid.mk' (HT3.out hz)
        generalize (chk l).2 = x2 at *
        generalize (chk l).1 = x1 at *
        clear hz HT1 HT2 HT3 HCk
        go_wp2
        go_loopw [9] (fun y wr => ∃ j : Nat, y = .int .i64 j ∧ j ≤ l.length ∧ Hid (∀ i, i < j → kindAt mk l i = 0) ∧ Below W2.heap.size W2 wr) (fun y _ => l.length - (intOf y).toNat)
        case atStart => exact ⟨0, rfl, Nat.zero_le _, fun i hi => by omega, hb3⟩
        case round =>
          obtain ⟨j, rfl, hj, hjok, hbj⟩ := hrel
          obtain ⟨q1, q2⟩ := HPk.out _ hbj
          by_cases hjl : j < l.length
          · obtain ⟨b, off, rfl, q3⟩ := HLk.out _ hbj j hjl
            have HJ := Hid.mk' (HT2'.out j hjl hjok.out)
            have HKj := HK.out j
            have HJO : Hid (kindAt mk l j = 0 → ∀ i, i < j + 1 → kindAt mk l i = 0) := fun e i hi => by
              rcases Nat.lt_or_ge i j with g | g
              · exact hjok.out i g
              · obtain rfl : i = j := by omega
                exact e
            generalize kindAt mk l j = cd at *
            generalize (l.getD j default).val = vl at *
            have hjz : (j : Int) < (l.length : Int) := by omega
            have hsz : Below W2.heap.size W2 (World.drew _) := hbj.drew
            by_cases hm0 : 0 < mk
            · have d0 : decide (0 < mk) = true := decide_eq_true hm0
              by_cases h1 : vl < 1
              · have d1 : decide (vl < 1) = true := decide_eq_true h1
                rw [if_pos ⟨hm0, .inl h1⟩] at HKj
                subst HKj
                have hxx := HJ.out (by decide)
                subst hxx
                have hres := Hid.mk' (HA.out (show (17 : Nat) ≠ 0 by decide))
                clear h1 hm0 HJ HJO
                go_wp2
                go_region
                go_wp2
                go_ret2
                exact ⟨ret_two (b := (j, 17)) hres.out, HW.out _ hsz⟩
              · have d1 : decide (vl < 1) = false := decide_eq_false h1
                by_cases h2 : (mk : Int) < vl
                · have d2 : decide ((mk : Int) < vl) = true := decide_eq_true h2
                  rw [if_pos ⟨hm0, .inr h2⟩] at HKj
                  subst HKj
                  have hxx := HJ.out (by decide)
                  subst hxx
                  have hres := Hid.mk' (HA.out (show (17 : Nat) ≠ 0 by decide))
                  clear h1 h2 hm0 HJ HJO
                  go_wp2
                  go_region
                  go_wp2
                  go_ret2
                  exact ⟨ret_two (b := (j, 17)) hres.out, HW.out _ hsz⟩
                · have d2 : decide ((mk : Int) < vl) = false := decide_eq_false h2
                  rw [if_neg (by omega)] at HKj
                  have hjok' := Hid.mk' (HJO.out HKj)
                  clear h1 h2 hm0 HJ HJO HKj
                  go_wp2
                  go_region
                  go_wp2
                  go_roundw
                  case rel => exact ⟨j + 1, by go_num, by omega, hjok', hsz⟩
                  case measure => simp [intOf]; omega
            · have d0 : decide (0 < mk) = false := decide_eq_false hm0
              rw [if_neg (by omega)] at HKj
              have hjok' := Hid.mk' (HJO.out HKj)
              clear hm0 HJ HJO HKj
              go_wp2
              go_region
              go_wp2
              go_roundw
              case rel => exact ⟨j + 1, by go_num, by omega, hjok', hsz⟩
              case measure => simp [intOf]; omega
          · obtain rfl : j = l.length := by omega
            have hok' := Hid.mk' (HOK.out (HT3'.out hjok.out))
            go_wp2
            go_roundw
            case rel => exact ⟨k + 1, by go_num, by omega, hok', hbj⟩
            case measure => simp [intOf]; omega
      · have hz' : (((chk l).2 : Int) != 0) = true := by simp; omega
        have hx := HT1.out hz
        subst hx
        have hres := Hid.mk' (HA.out hz)
        clear hz HT1 HT2 HT3 HA HOK
        generalize hcl : chk l = cl at *
        go_wp2
        go_ret2
        exact ⟨ret_two hres.out, HW.out _ hb3⟩
    · obtain rfl : k = 11 := by omega
      have hres := Hid.mk' (HNO.out hok.out)
      go_wp2
      go_ret2
      exact ⟨ret_two (b := (0, 0)) hres.out, HW.out _ hb⟩
end Go.Proofs.YtcklfcoobccgcaaDoor

/-
  What is proved here: what checkClasses and checkExcluded answer.
-/
import Derived.Test.YtlnehhfljjeifaaDoorA9
namespace Go.Proofs.YtlnehhfljjeifaaDoor
open Go.RowKit

set_option maxRecDepth 20000 in
set_option maxHeartbeats 4000000 in
theorem checkClasses_any (vr vc ve : Value) (l : List Rg) (w : World) (p : Nat → Addr) (hg : Gl p w) (hT : Tab w vc l) (hl : l.length ≤ 2147483648) :
    Calls Tryd.prog 24 #[.agg #[vr, vc, ve]] w fun e w' => ∃ fv, e = .returned fv ∧ Says w' fv w.heap.size p (orE (chk l) (ff (clsCode l) l.length)) ∧ Below w.heap.size w w' := by
  obtain ⟨W0, hW0⟩ : ∃ W0, w.alloc (.cells #[vr, vc, ve] 26) = W0 := ⟨_, rfl⟩
  have hsz0 : W0.heap.size = w.heap.size + 1 := by rw [← hW0, World.size_alloc]
  have hb0 : Below w.heap.size w W0 := by rw [← hW0]; exact (Below.refl _ w).alloc (Nat.le_refl _) _
  obtain ⟨a, cap, rfl, hTj⟩ := id hT
  have e1 : W0.cell? ⟨w.heap.size, 1, none⟩ = some (.slice a l.length cap) := by rw [← hW0, World.cell?_alloc_new]; rfl
  have HC := Hid.mk' (check_any (.slice a l.length cap) l W0 p (hg.below hb0) (hT.below hb0) hl)
  have HE : Hid (∀ W, Below W0.heap.size W0 W → W.cell? ⟨w.heap.size, 1, none⟩ = some (.slice a l.length cap) ∧ Below w.heap.size w W) := fun W hb => ⟨(hb.cell (p := ⟨w.heap.size, 1, none⟩) (lt_of_cell e1)).trans e1, hb0.trans (hb.mono hb0.size)⟩
  have HT : Hid (∀ W, Below w.heap.size w W → ∀ j, j < l.length → ∃ b off, a = some ⟨b, off, none⟩ ∧ W.cell? ⟨b, off + j * 3, none⟩ = some (.int .i32 (l.getD j default).lo) ∧ W.cell? ⟨b, off + j * 3 + 1, none⟩ = some (.int .i32 (l.getD j default).hi) ∧ W.cell? ⟨b, off + j * 3 + 2, none⟩ = some (.int .i64 (l.getD j default).val)) := fun W hb j hj => by
    obtain ⟨b, off, rfl, hc⟩ := hTj j hj
    exact ⟨b, off, rfl, three_of (w := W) (b := b) (o := off + j * 3) (r := l.getD j default) (fun i hi => by rw [← hc i hi]; exact hb.cell (p := ⟨b, off + j * 3 + i, none⟩) (lt_of_cell (hc 0 (by omega))))⟩
  have HH : Hid (∀ W lo hi, Below w.heap.size w W → _) := fun W lo hi hb => hasHangul_any lo hi W p (hg.below hb)
  have HG : Hid (∀ W, Below w.heap.size w W → Gl p W) := fun W hb => hg.below hb
  have HOE : Hid ((chk l).2 ≠ 0 → orE (chk l) (ff (clsCode l) l.length) = chk l) := fun h => orE_l h
  have HOR : Hid ((chk l).2 = 0 → orE (chk l) (ff (clsCode l) l.length) = ff (clsCode l) l.length) := fun h => orE_r h
  clear hT hTj hg hb0
  go_enter Tryd.func24, Tryd.ntmps24
  go_wp2_with fail
  refine HC.out.mono ?_
  rintro e w1 ⟨fv, rfl, hsay, hb1⟩
  obtain ⟨k1, hbw1⟩ := HE.out w1 hb1
  rcases hsay with ⟨hz, rfl⟩ | ⟨hnz, hf⟩
  · have hor : Hid (orE (chk l) (ff (clsCode l) l.length) = ff (clsCode l) l.length) := HOR.out (by rw [hz])
    clear HOE HOR hz HC
    go_wp2
    clear e1 k1
    go_loopw [15] (fun y wr => ∃ k : Nat, y = .int .i64 k ∧ k ≤ l.length ∧ Hid (∀ i, i < k → clsCode l i = 0) ∧ Below w.heap.size w wr) (fun y _ => l.length - (intOf y).toNat)
    case atStart => exact ⟨0, rfl, Nat.zero_le _, fun i hi => by omega, hbw1⟩
    case round =>
      obtain ⟨k, rfl, hk, hok, hb⟩ := hrel
      by_cases hlt : k < l.length
      · obtain ⟨b, off, rfl, d0, d1, d2⟩ := HT.out wr hb k hlt
        obtain ⟨WA, hWA⟩ : ∃ WA, wr.alloc (.cells #[.int .i32 (l.getD k default).lo, .int .i32 (l.getD k default).hi, .int .i64 (l.getD k default).val] 77) = WA := ⟨_, rfl⟩
        have hbA : Below w.heap.size w WA := by rw [← hWA]; exact hb.alloc hb.size _
        have r0 : WA.cell? ⟨wr.heap.size, 0, none⟩ = some (.int .i32 (l.getD k default).lo) := by rw [← hWA, World.cell?_alloc_new]; rfl
        have r1 : WA.cell? ⟨wr.heap.size, 1, none⟩ = some (.int .i32 (l.getD k default).hi) := by rw [← hWA, World.cell?_alloc_new]; rfl
        have r2 : WA.cell? ⟨wr.heap.size, 2, none⟩ = some (.int .i64 (l.getD k default).val) := by rw [← hWA, World.cell?_alloc_new]; rfl
        have HAT : Hid (clsCode l k ≠ 0 → ff (clsCode l) l.length = (k, clsCode l k)) := fun hc => ff_at _ _ k hlt hok.out hc
        have HOK : Hid (clsCode l k = 0 → ∀ i, i < k + 1 → clsCode l i = 0) := fun hd i hi => by
          rcases Nat.lt_or_ge i k with g | g
          · exact hok.out i g
          · obtain rfl : i = k := by omega
            exact hd
        have hcode : clsCode l k = if 1 ≤ (l.getD k default).val ∧ (l.getD k default).val ≤ 254 ∧ hangs (l.getD k default).lo (l.getD k default).hi = false then 0 else 17 := rfl
        have HHk := Hid.mk' (HH.out WA (l.getD k default).lo (l.getD k default).hi hbA)
        have g17 := (HG.out WA hbA).g17
        generalize clsCode l k = c at *
        generalize l.getD k default = q at *
        obtain ⟨lo, hi, vl⟩ := q
        simp only [] at *
        generalize hangs lo hi = hs at *
        rcases (by omega : vl < 1 ∨ 254 < vl ∨ (1 ≤ vl ∧ vl ≤ 254)) with hv | hv | ⟨hv, hv'⟩
        · rw [if_neg (by omega)] at hcode
          subst hcode
          have hsay := Hid.mk' (HAT.out (by decide))
          clear HHk HAT HOK HT HH HG hok
          go_wp2
          go_ret
          refine ⟨_, rfl, ?_, hbA.alloc hbA.size _⟩
          rw [hor.out, hsay.out]
          exact .inr ⟨by simp, flt_new hbA.size _ _⟩
        · rw [if_neg (by omega)] at hcode
          subst hcode
          have hsay := Hid.mk' (HAT.out (by decide))
          clear HHk HAT HOK HT HH HG hok
          go_wp2
          go_ret
          refine ⟨_, rfl, ?_, hbA.alloc hbA.size _⟩
          rw [hor.out, hsay.out]
          exact .inr ⟨by simp, flt_new hbA.size _ _⟩
        · have v1 : decide (vl < 1) = false := by simp; omega
          have v2 : decide (254 < vl) = false := by simp; omega
          cases hs
          · rw [if_pos ⟨hv, hv', rfl⟩] at hcode
            have hok' := Hid.mk' (HOK.out hcode)
            clear HAT HOK hok g17 hcode hv hv'
            go_wp2_with fail
            refine HHk.out.mono ?_
            rintro e w2 ⟨rfl, hb2⟩
            go_wp2
            go_roundw
            case rel => exact ⟨k + 1, by go_num, by omega, hok', hbA.trans (hb2.mono hbA.size)⟩
            case measure => simp [intOf]; omega
          · rw [if_neg (by simp)] at hcode
            subst hcode
            have hsay := Hid.mk' (HAT.out (by decide))
            clear HAT HOK hok hv hv' g17
            go_wp2_with fail
            refine HHk.out.mono ?_
            rintro e w2 ⟨rfl, hb2⟩
            have hbw2 := hbA.trans (hb2.mono hbA.size)
            have g17 := (HG.out w2 hbw2).g17
            go_wp2
            go_ret
            refine ⟨_, rfl, ?_, hbw2.alloc hbw2.size _⟩
            rw [hor.out, hsay.out]
            exact .inr ⟨by simp, flt_new hbw2.size _ _⟩
      · obtain rfl : k = l.length := by omega
        have hsay : Hid (ff (clsCode l) l.length = (0, 0)) := ff_none _ _ hok.out
        clear HT HH HG hok
        go_wp2
        go_ret
        exact ⟨_, rfl, .inl ⟨by rw [hor.out, hsay.out], rfl⟩, hb⟩
  · have hor : Hid (orE (chk l) (ff (clsCode l) l.length) = chk l) := HOE.out hnz
    have HF : Hid (Flt w1 fv W0.heap.size (chk l).1 (p (chk l).2)) := hf
    obtain ⟨b, hbb, rfl, -, -⟩ := hf
    have HNZ := Hid.mk' hnz
    clear HOE HOR hnz HC HT HH HG e1 k1
    go_wp2
    go_ret
    refine ⟨_, rfl, ?_, hbw1⟩
    rw [hor.out]
    exact .inr ⟨HNZ.out, HF.out.weaken (by omega) rfl⟩
set_option maxRecDepth 20000 in
set_option maxHeartbeats 4000000 in
theorem checkExcluded_any (vr vc ve : Value) (l : List Int) (w : World) (p : Nat → Addr) (hg : Gl p w) (hT : Runes w ve l) (hl : l.length ≤ 2147483648) :
    Calls Tryd.prog 25 #[.agg #[vr, vc, ve]] w fun e w' => ∃ fv, e = .returned fv ∧ Says w' fv w.heap.size p (ff (excCode l) l.length) ∧ Below w.heap.size w w' := by
  obtain ⟨W0, hW0⟩ : ∃ W0, w.alloc (.cells #[vr, vc, ve] 26) = W0 := ⟨_, rfl⟩
  have hb0 : Below w.heap.size w W0 := by rw [← hW0]; exact (Below.refl _ w).alloc (Nat.le_refl _) _
  obtain ⟨a, cap, rfl, hTj⟩ := id hT
  have e1 : W0.cell? ⟨w.heap.size, 2, none⟩ = some (.slice a l.length cap) := by rw [← hW0, World.cell?_alloc_new]; rfl
  obtain ⟨-, -, -, -⟩ := id hb0
  have g4 := (hg.below hb0).g4
  have g6 := (hg.below hb0).g6
  have HT : Hid (∀ j, j < l.length → ∃ b off, a = some ⟨b, off, none⟩ ∧ W0.cell? ⟨b, off + j, none⟩ = some (.int .i32 (l.getD j 0))) := fun j hj => by
    obtain ⟨b, off, rfl, hc⟩ := hTj j hj
    exact ⟨b, off, rfl, (hb0.cell (p := ⟨b, off + j, none⟩) (lt_of_cell hc)).trans hc⟩
  have HR : Hid (∀ r W, _) := fun r W => right_rune r W
  clear hT hTj hg
  go_enter Tryd.func25, Tryd.ntmps25
  go_wp2
  go_loopw [8] (fun y wr => ∃ k : Nat, y = .int .i64 k ∧ k ≤ l.length ∧ Hid (∀ i, i < k → excCode l i = 0) ∧ W0 = wr) (fun y _ => l.length - (intOf y).toNat)
  case atStart => exact ⟨0, rfl, Nat.zero_le _, fun i hi => by omega, rfl⟩
  case round =>
    obtain ⟨k, rfl, hk, hok, rfl⟩ := hrel
    by_cases hlt : k < l.length
    · obtain ⟨b, off, rfl, d0⟩ := HT.out k hlt
      have HAT : Hid (excCode l k ≠ 0 → ff (excCode l) l.length = (k, excCode l k)) := fun hc => ff_at _ _ k hlt hok.out hc
      have HOK : Hid (excCode l k = 0 → ∀ i, i < k + 1 → excCode l i = 0) := fun hd i hi => by
        rcases Nat.lt_or_ge i k with g | g
        · exact hok.out i g
        · obtain rfl : i = k := by omega
          exact hd
      have hcode : excCode l k = if rightR (l.getD k 0) = false then 4 else if 0 < k ∧ l.getD k 0 ≤ l.getD (k - 1) 0 then 6 else 0 := rfl
      have HRk := Hid.mk' (HR.out (l.getD k 0) W0)
      have HP : Hid (0 < k → W0.cell? ⟨b, off + (k - 1), none⟩ = some (.int .i32 (l.getD (k - 1) 0))) := fun h0 => by
        obtain ⟨b2, off2, e2, d2⟩ := HT.out (k - 1) (by omega)
        obtain ⟨rfl, rfl⟩ : b = b2 ∧ off = off2 := by simpa using e2
        exact d2
      generalize excCode l k = c at *
      generalize l.getD k 0 = q at *
      generalize l.getD (k - 1) 0 = pq at *
      cases hr : rightR q
      · rw [hr] at hcode HRk
        rw [if_pos rfl] at hcode
        subst hcode
        have hsay := Hid.mk' (HAT.out (by decide))
        clear HAT HOK HP hok g6
        go_wp2_with fail
        refine HRk.out.mono ?_
        rintro e w2 ⟨rfl, rfl⟩
        go_wp2
        go_ret
        refine ⟨_, rfl, ?_, hb0.alloc hb0.size _⟩
        rw [hsay.out]
        exact .inr ⟨by simp, flt_new hb0.size _ _⟩
      · rw [hr] at hcode HRk
        rw [if_neg (by decide)] at hcode
        by_cases hk0 : k = 0
        · subst hk0
          rw [if_neg (by omega)] at hcode
          have hok' := Hid.mk' (HOK.out hcode)
          clear HAT HOK HP hok g6 g4 hcode
          rw [Nat.add_zero] at d0
          go_wp2_with fail
          refine HRk.out.mono ?_
          rintro e w2 ⟨rfl, rfl⟩
          go_wp2
          go_roundw
          case rel => first | exact ⟨1, by go_num, by omega, hok', rfl⟩ | exact ⟨1, by go_num, by omega, hok', trivial⟩
          case measure => simp [intOf]; omega
        · obtain ⟨j, rfl⟩ : ∃ j, k = j + 1 := ⟨k - 1, by omega⟩
          simp only [Nat.add_sub_cancel] at HP
          have dp := HP.out (by omega)
          have hjl : (j : Int) < (l.length : Int) := by omega
          by_cases hle : q ≤ pq
          · rw [if_pos ⟨by omega, hle⟩] at hcode
            subst hcode
            have hled : decide (q ≤ pq) = true := decide_eq_true hle
            have hsay := Hid.mk' (HAT.out (by decide))
            clear HAT HOK HP hok g4 hle
            go_wp2_with fail
            refine HRk.out.mono ?_
            rintro e w2 ⟨rfl, rfl⟩
            go_wp2
            go_ret
            refine ⟨_, rfl, ?_, hb0.alloc hb0.size _⟩
            rw [hsay.out]
            exact .inr ⟨by simp, flt_new hb0.size _ _⟩
          · rw [if_neg (by omega)] at hcode
            have hled : decide (q ≤ pq) = false := decide_eq_false hle
            have hok' := Hid.mk' (HOK.out hcode)
            clear HAT HOK HP hok g4 g6 hle hcode
            go_wp2_with fail
            refine HRk.out.mono ?_
            rintro e w2 ⟨rfl, rfl⟩
            go_wp2
            go_roundw
            case rel => first | exact ⟨j + 1 + 1, by go_num, by omega, hok', rfl⟩ | exact ⟨j + 1 + 1, by go_num, by omega, hok', trivial⟩
            case measure => simp [intOf]; omega
    · obtain rfl : k = l.length := by omega
      have hsay : Hid (ff (excCode l) l.length = (0, 0)) := ff_none _ _ hok.out
      clear HT HR hok
      go_wp2
      go_ret
      exact ⟨_, rfl, .inl ⟨hsay.out, rfl⟩, hb0⟩
end Go.Proofs.YtlnehhfljjeifaaDoor

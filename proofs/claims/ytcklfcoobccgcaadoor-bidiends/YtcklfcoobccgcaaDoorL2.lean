/-
  What is proved here: what classes' checkTable and Check answer, of any properties.
-/
import Derived.Test.YtcklfcoobccgcaaDoorL1
import Derived.Test.YtcklfcoobccgcaaDoorR3
import Derived.Test.YtcklfcoobccgcaaDoorA9
namespace Go.Proofs.YtcklfcoobccgcaaDoor
open Go.RowKit Go.Shelf

set_option maxHeartbeats 1000000 in
/-- the function that tells a value that may not be -/
theorem wrongVal_any (lo hi vl m : Int) (P : Nat) (w : World) (hm : w.cell? ⟨P, 0, none⟩ = some (.int .i64 m)) :
    Calls Tryd.prog 54 #[.agg #[.int .i32 lo, .int .i32 hi, .int .i64 vl], .pointer (some ⟨P, 0, none⟩)] w fun e w' => e = .returned (.bool (decide (vl < 1) || decide (m < vl))) ∧ Below w.heap.size w w' := by
  obtain ⟨WA, hWA⟩ : ∃ WA, w.alloc (.cells #[.int .i32 lo, .int .i32 hi, .int .i64 vl] 44) = WA := ⟨_, rfl⟩
  have hbA : Below w.heap.size w WA := by rw [← hWA]; exact (Below.refl _ w).alloc (Nat.le_refl _) _
  have r2 : WA.cell? ⟨w.heap.size, 2, none⟩ = some (.int .i64 vl) := by rw [← hWA, World.cell?_alloc_new]; rfl
  have m2 : WA.cell? ⟨P, 0, none⟩ = some (.int .i64 m) := (hbA.cell (p := ⟨P, 0, none⟩) (lt_of_cell hm)).trans hm
  by_cases h1 : vl < 1
  · have hd : decide (vl < 1) = true := decide_eq_true h1
    go_enter Tryd.func54, Tryd.ntmps54
    go_wp2
    go_ret
    exact ⟨ret_bool (by first | rfl | (rw [hd]; rfl)), hbA⟩
  · have hd : decide (vl < 1) = false := decide_eq_false h1
    cases hd2 : decide (m < vl)
    all_goals
      go_enter Tryd.func54, Tryd.ntmps54
      go_wp2
      go_ret
      exact ⟨ret_bool (by first | rfl | (rw [hd]; rfl)), hbA⟩
/-- the first range whose value may not be; -1: none -/
def idxK (m : Nat) (l : List Rg) : Int := if (ff (kindAt m l) l.length).2 = 0 then -1 else ((ff (kindAt m l) l.length).1 : Int)
theorem kindAt_iff {m : Nat} (hm : 0 < m) (l : List Rg) (i : Nat) : (decide ((l.getD i default).val < 1) || decide ((m : Int) < (l.getD i default).val)) = decide (kindAt m l i ≠ 0) := by
  unfold kindAt
  generalize (l.getD i default).val = v
  rw [Bool.eq_iff_iff]
  simp only [Bool.or_eq_true, decide_eq_true_eq]
  split
  · rename_i h; exact ⟨fun _ => by decide, fun _ => h.2⟩
  · rename_i h; exact ⟨fun g => absurd ⟨hm, g⟩ h, fun g => absurd rfl g⟩
set_option maxRecDepth 20000 in
set_option maxHeartbeats 2000000 in
theorem indexKind_any (m : Nat) (hm0 : 0 < m) (P : Nat) (v : Value) (l : List Rg) (w : World) (hT : Tab w v l) (hl : l.length ≤ 2147483648) (hm : w.cell? ⟨P, 0, none⟩ = some (.int .i64 m)) :
    Calls Tryd.prog 55 #[v, .func (.func 54) #[] #[.pointer (some ⟨P, 0, none⟩)]] w fun e w' => e = .returned (.int .i64 (idxK m l)) ∧ Below w.heap.size w w' := by
  have hF : ∀ args w, (callFunc 54 args).run Tryd.prog w = .ok (.enter 54 args) w := enters_of Tryd.func54 (by kernel_rfl) rfl
  obtain ⟨a, cap, rfl, hTj⟩ := hT
  have HT : Hid (∀ W, Below w.heap.size w W → ∀ j, j < l.length → ∃ b off, a = some ⟨b, off, none⟩ ∧ W.cell? ⟨b, off + j * 3, none⟩ = some (.int .i32 (l.getD j default).lo) ∧ W.cell? ⟨b, off + j * 3 + 1, none⟩ = some (.int .i32 (l.getD j default).hi) ∧ W.cell? ⟨b, off + j * 3 + 2, none⟩ = some (.int .i64 (l.getD j default).val)) := fun W hb j hj => by
    obtain ⟨b, off, rfl, hc⟩ := hTj j hj
    exact ⟨b, off, rfl, three_of (w := W) (b := b) (o := off + j * 3) (r := l.getD j default) (fun i hi => by rw [← hc i hi]; exact hb.cell (p := ⟨b, off + j * 3 + i, none⟩) (lt_of_cell (hc 0 (by omega))))⟩
  have HP : Hid (∀ lo hi vl W, Below w.heap.size w W → _) := fun lo hi vl W hb => wrongVal_any lo hi vl m P W ((hb.cell (p := ⟨P, 0, none⟩) (lt_of_cell hm)).trans hm)
  have HI : Hid (∀ i, (decide ((l.getD i default).val < 1) || decide ((m : Int) < (l.getD i default).val)) = decide (kindAt m l i ≠ 0)) := kindAt_iff hm0 l
  have HS : Hid (∀ k, k < l.length → (∀ j, j < k → kindAt m l j = 0) → kindAt m l k ≠ 0 → idxK m l = k) := fun k hk h1 h2 => by
    unfold idxK; rw [ff_at _ _ k hk h1 h2, if_neg h2]
  have HN : Hid ((∀ j, j < l.length → kindAt m l j = 0) → idxK m l = -1) := fun h => by unfold idxK; rw [ff_none _ _ h]; rfl
  generalize idxK m l = R at *
  clear hTj hm hm0
  go_enter Tryd.func55, Tryd.ntmps55
  go_wp2
  go_loopw [8] (fun x wr => ∃ k : Nat, k ≤ l.length ∧ x = .int .i64 k ∧ Hid (∀ j, j < k → kindAt m l j = 0) ∧ Below w.heap.size w wr) (fun x _ => l.length - (intOf x).toNat)
  case atStart => exact ⟨0, Nat.zero_le _, rfl, fun j hj => by omega, Below.refl _ _⟩
  case round =>
    obtain ⟨k, hk, rfl, HA, hb⟩ := hrel
    by_cases hlt : k < l.length
    · obtain ⟨b, off, rfl, d0, d1, d2⟩ := HT.out wr hb k hlt
      have HK := Hid.mk' (HP.out (l.getD k default).lo (l.getD k default).hi (l.getD k default).val wr hb)
      rw [HI.out k] at HK
      have HX : Hid (kindAt m l k = 0 → ∀ j, j < k + 1 → kindAt m l j = 0) := fun e j hj => by
        rcases Nat.lt_or_ge j k with q | q
        · exact HA.out j q
        · obtain rfl : j = k := by omega
          exact e
      have HY : Hid (kindAt m l k ≠ 0 → R = k) := fun e => HS.out k hlt HA.out e
      generalize kindAt m l k = c at HK HX HY
      generalize l.getD k default = q at *
      obtain ⟨lo, hi, vl⟩ := q
      simp only [] at *
      have hklz : (k : Int) < (l.length : Int) := by omega
      by_cases hc : c = 0
      · rw [decide_eq_false (by simpa using hc)] at HK
        have HE2 := Hid.mk' (HX.out hc)
        clear hc HX HY
        go_wp2_with fail
        refine HK.out.mono ?_
        rintro e w1 ⟨rfl, hb1⟩
        go_wp2
        go_roundw
        case rel => exact ⟨k + 1, by omega, by go_num, HE2, hb.trans (hb1.mono hb.size)⟩
        case measure => simp [intOf]; omega
      · rw [decide_eq_true (by simpa using hc)] at HK
        have HR := Hid.mk' (HY.out hc)
        clear hc HX HY
        go_wp2_with fail
        refine HK.out.mono ?_
        rintro e w1 ⟨rfl, hb1⟩
        go_wp2
        go_ret
        exact ⟨ret_int HR.out.symm, hb.trans (hb1.mono hb.size)⟩
    · obtain rfl : k = l.length := by omega
      have HR := Hid.mk' (HN.out HA.out)
      go_wp2
      go_ret
      exact ⟨ret_int HR.out.symm, hb⟩
set_option maxHeartbeats 4000000 in
theorem checkTable_any (v : Value) (l : List Rg) (m : Nat) (w : World) (p : Nat → Addr) (hg : Gl p w) (hT : Tab w v l) (hl : l.length ≤ 2147483648) :
    Calls Tryd.prog 39 #[v, .int .i64 m] w fun e w' => ∃ fv, e = .returned fv ∧ Says w' fv w.heap.size p (chkT l m) ∧ Below w.heap.size w w' := by
  obtain ⟨W0, hW0⟩ : ∃ W0, w.alloc (.cells #[.int .i64 (m : Int)] 3) = W0 := ⟨_, rfl⟩
  have hsz0 : W0.heap.size = w.heap.size + 1 := by rw [← hW0, World.size_alloc]
  have hb0 : Below w.heap.size w W0 := by rw [← hW0]; exact (Below.refl _ w).alloc (Nat.le_refl _) _
  have e0 : W0.cell? ⟨w.heap.size, 0, none⟩ = some (.int .i64 (m : Int)) := by rw [← hW0, World.cell?_alloc_new]; rfl
  have HC := Hid.mk' (check_any v l W0 p (hg.below hb0) (hT.below hb0) hl)
  have HE : Hid (∀ W, Below W0.heap.size W0 W → W.cell? ⟨w.heap.size, 0, none⟩ = some (.int .i64 (m : Int)) ∧ Below w.heap.size w W) := fun W hb => ⟨(hb.cell (p := ⟨w.heap.size, 0, none⟩) (lt_of_cell e0)).trans e0, hb0.trans (hb.mono hb0.size)⟩
  have HX : Hid (0 < m → ∀ W, Below w.heap.size w W → W.cell? ⟨w.heap.size, 0, none⟩ = some (.int .i64 (m : Int)) → _) := fun h0 W hb he => indexKind_any m h0 w.heap.size v l W (hT.below hb) hl he
  have HG : Hid (∀ W, Below w.heap.size w W → Gl p W) := fun W hb => hg.below hb
  have HOE : Hid ((chk l).2 ≠ 0 → chkT l m = chk l) := fun h => orE_l h
  have HOR : Hid ((chk l).2 = 0 → chkT l m = ff (kindAt m l) l.length) := fun h => orE_r h
  have HZ : Hid (m = 0 → ff (kindAt m l) l.length = (0, 0)) := fun h => ff_none _ _ fun i _ => by unfold kindAt; rw [if_neg (by omega)]
  have HI : Hid (∀ x, idxK m l = x → (x = -1 ∧ ff (kindAt m l) l.length = (0, 0)) ∨ (∃ k : Nat, x = k ∧ ff (kindAt m l) l.length = (k, 17))) := fun x hx => by
    unfold idxK at hx
    by_cases h : (ff (kindAt m l) l.length).2 = 0
    · rw [if_pos h] at hx
      refine .inl ⟨hx.symm, ff_none _ _ (ff_zero _ _ h)⟩
    · rw [if_neg h] at hx
      obtain ⟨k, _, _, h2, h3⟩ := ff_ne _ _ h
      refine .inr ⟨k, by rw [← hx, h3], ?_⟩
      rw [h3]
      have : kindAt m l k = 17 := by
        unfold kindAt at h2 ⊢
        split
        · rfl
        · rename_i g; rw [if_neg g] at h2; exact absurd rfl h2
      rw [this]
  obtain ⟨a, cap, rfl, -⟩ := hT
  generalize chkT l m = res at *
  generalize idxK m l = ix at *
  generalize ff (kindAt m l) l.length = fk at *
  clear hg hb0
  go_enter Tryd.func39, Tryd.ntmps39
  go_wp2_with fail
  refine HC.out.mono ?_
  rintro e w1 ⟨fv, rfl, hsay, hb1⟩
  obtain ⟨k1, hbw1⟩ := HE.out w1 hb1
  rcases hsay with ⟨hz, rfl⟩ | ⟨hnz, hf⟩
  · have hor := HOR.out (by rw [hz])
    subst hor
    clear HOE HOR hz HC e0
    by_cases hm : m = 0
    · have hfk := Hid.mk' (HZ.out hm)
      subst hm
      go_wp2
      go_ret
      exact ⟨_, rfl, .inl ⟨hfk.out, rfl⟩, hbw1⟩
    · have HK := Hid.mk' (HX.out (by omega) w1 hbw1 k1)
      have hmz : ((m : Int) == 0) = false := by simp; omega
      have g17 := (HG.out w1 hbw1).g17
      rcases HI.out ix rfl with ⟨rfl, hfk0⟩ | ⟨k, rfl, hfk0⟩
      · have hfk := Hid.mk' hfk0
        clear hfk0 HX HI HZ hm
        go_wp2_with fail
        refine HK.out.mono ?_
        rintro e w2 ⟨rfl, hb2⟩
        go_wp2
        go_ret
        exact ⟨_, rfl, .inl ⟨hfk.out, rfl⟩, hbw1.trans (hb2.mono hbw1.size)⟩
      · have hfk := Hid.mk' hfk0
        have hk0 : decide ((0 : Int) ≤ (k : Int)) = true := decide_eq_true (by omega)
        have hk1 : decide ((k : Int) < 0) = false := decide_eq_false (by omega)
        clear hfk0 HX HI HZ hm
        go_wp2_with fail
        refine HK.out.mono ?_
        rintro e w2 ⟨rfl, hb2⟩
        have hbw2 := hbw1.trans (hb2.mono hbw1.size)
        have g17' := (HG.out w2 hbw2).g17
        clear g17
        go_wp2
        go_ret
        refine ⟨_, rfl, ?_, hbw2.alloc hbw2.size _⟩
        rw [hfk.out]
        exact .inr ⟨by simp, flt_new hbw2.size _ _⟩
  · have hor := HOE.out hnz
    subst hor
    have HF : Hid (Flt w1 fv W0.heap.size (chk l).1 (p (chk l).2)) := hf
    obtain ⟨b, hbb, rfl, -, -⟩ := hf
    have HNZ := Hid.mk' hnz
    clear HOE HOR hnz HC HX HG e0 k1
    go_wp2
    go_ret
    exact ⟨_, rfl, .inr ⟨HNZ.out, HF.out.weaken (by omega) rfl⟩, hbw1⟩
end Go.Proofs.YtcklfcoobccgcaaDoor

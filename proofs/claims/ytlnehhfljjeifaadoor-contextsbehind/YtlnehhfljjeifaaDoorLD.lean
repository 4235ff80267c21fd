/-
  What is proved here: what classes' checkTable and Check answer, of any properties. · what classes' Check answers, of any properties.
-/
import Derived.Test.YtlnehhfljjeifaaDoorKL
import Derived.Test.YtlnehhfljjeifaaDoorR3
import Derived.Test.YtlnehhfljjeifaaDoorB1
namespace Go.Proofs.YtlnehhfljjeifaaDoor
open Go.RowKit Go.Shelf

set_option maxHeartbeats 1000000 in
/-- the function that tells a value that may not be -/
theorem wrongVal_any (lo hi vl m : Int) (P : Nat) (w : World) (hm : w.cell? ⟨P, 0, none⟩ = some (.int .i64 m)) :
    Calls Tryd.prog 44 #[.agg #[.int .i32 lo, .int .i32 hi, .int .i64 vl], .pointer (some ⟨P, 0, none⟩)] w fun e w' => e = .returned (.bool (decide (vl < 1) || decide (m < vl))) ∧ Below w.heap.size w w' := by
  obtain ⟨WA, hWA⟩ : ∃ WA, w.alloc (.cells #[.int .i32 lo, .int .i32 hi, .int .i64 vl] 77) = WA := ⟨_, rfl⟩
  have hbA : Below w.heap.size w WA := by rw [← hWA]; exact (Below.refl _ w).alloc (Nat.le_refl _) _
  have r2 : WA.cell? ⟨w.heap.size, 2, none⟩ = some (.int .i64 vl) := by rw [← hWA, World.cell?_alloc_new]; rfl
  have m2 : WA.cell? ⟨P, 0, none⟩ = some (.int .i64 m) := (hbA.cell (p := ⟨P, 0, none⟩) (lt_of_cell hm)).trans hm
  by_cases h1 : vl < 1
  · have hd : decide (vl < 1) = true := decide_eq_true h1
    go_enter Tryd.func44, Tryd.ntmps44
    go_wp2
    go_ret
    exact ⟨ret_bool (by first | rfl | (rw [hd]; rfl)), hbA⟩
  · have hd : decide (vl < 1) = false := decide_eq_false h1
    cases hd2 : decide (m < vl)
    all_goals
      go_enter Tryd.func44, Tryd.ntmps44
      go_wp2
      go_ret
      exact ⟨ret_bool (by first | rfl | (rw [hd]; rfl)), hbA⟩
/-- the first range whose value may not be; -1: none -/
def idxK (m : Nat) (l : List Rg) : Int := if (ff (kindAt m l) l.length).2 = 0 then -1 else ((ff (kindAt m l) l.length).1 : Int)
theorem kindAt_iff {m : Nat} (hm : 0 < m) (l : List Rg) (i : Nat) : (decide ((l.getD i default).val < 1) || decide ((m : Int) < (l.getD i default).val)) = decide (kindAt m l i ≠ 0) := by
  unfold kindAt
  generalize (l.getD i default).val = v
  rw [Bool.eq_iff_iff]
  simp only [Bool.or_eq_true, decide_eq_true_eq]
  split
  · rename_i h; exact ⟨fun _ => by decide, fun _ => h.2⟩
  · rename_i h; exact ⟨fun g => absurd ⟨hm, g⟩ h, fun g => absurd rfl g⟩
set_option maxRecDepth 20000 in
set_option maxHeartbeats 2000000 in
theorem indexKind_any (m : Nat) (hm0 : 0 < m) (P : Nat) (v : Value) (l : List Rg) (w : World) (hT : Tab w v l) (hl : l.length ≤ 2147483648) (hm : w.cell? ⟨P, 0, none⟩ = some (.int .i64 m)) :
    Calls Tryd.prog 45 #[v, .func (.func 44) #[] #[.pointer (some ⟨P, 0, none⟩)]] w fun e w' => e = .returned (.int .i64 (idxK m l)) ∧ Below w.heap.size w w' := by
  have hF : ∀ args w, (callFunc 44 args).run Tryd.prog w = .ok (.enter 44 args) w := enters_of Tryd.func44 (by kernel_rfl) rfl
  obtain ⟨a, cap, rfl, hTj⟩ := hT
  have HT : Hid (∀ W, Below w.heap.size w W → ∀ j, j < l.length → ∃ b off, a = some ⟨b, off, none⟩ ∧ W.cell? ⟨b, off + j * 3, none⟩ = some (.int .i32 (l.getD j default).lo) ∧ W.cell? ⟨b, off + j * 3 + 1, none⟩ = some (.int .i32 (l.getD j default).hi) ∧ W.cell? ⟨b, off + j * 3 + 2, none⟩ = some (.int .i64 (l.getD j default).val)) := fun W hb j hj => by
    obtain ⟨b, off, rfl, hc⟩ := hTj j hj
    exact ⟨b, off, rfl, three_of (w := W) (b := b) (o := off + j * 3) (r := l.getD j default) (fun i hi => by rw [← hc i hi]; exact hb.cell (p := ⟨b, off + j * 3 + i, none⟩) (lt_of_cell (hc 0 (by omega))))⟩
  have HP : Hid (∀ lo hi vl W, Below w.heap.size w W → _) := fun lo hi vl W hb => wrongVal_any lo hi vl m P W ((hb.cell (p := ⟨P, 0, none⟩) (lt_of_cell hm)).trans hm)
  have HI : Hid (∀ i, (decide ((l.getD i default).val < 1) || decide ((m : Int) < (l.getD i default).val)) = decide (kindAt m l i ≠ 0)) := kindAt_iff hm0 l
  have HS : Hid (∀ k, k < l.length → (∀ j, j < k → kindAt m l j = 0) → kindAt m l k ≠ 0 → idxK m l = k) := fun k hk h1 h2 => by
    unfold idxK; rw [ff_at _ _ k hk h1 h2, if_neg h2]
  have HN : Hid ((∀ j, j < l.length → kindAt m l j = 0) → idxK m l = -1) := fun h => by unfold idxK; rw [ff_none _ _ h]; rfl
  generalize idxK m l = R at *
  clear hTj hm hm0
  go_enter Tryd.func45, Tryd.ntmps45
  go_wp2
  go_loopw [8] (fun x wr => ∃ k : Nat, k ≤ l.length ∧ x = .int .i64 k ∧ Hid (∀ j, j < k → kindAt m l j = 0) ∧ Below w.heap.size w wr) (fun x _ => l.length - (intOf x).toNat)
  case atStart => exact ⟨0, Nat.zero_le _, rfl, fun j hj => by omega, Below.refl _ _⟩
  case round =>
    obtain ⟨k, hk, rfl, HA, hb⟩ := hrel
    by_cases hlt : k < l.length
    · obtain ⟨b, off, rfl, d0, d1, d2⟩ := HT.out wr hb k hlt
      have HK := Hid.mk' (HP.out (l.getD k default).lo (l.getD k default).hi (l.getD k default).val wr hb)
      rw [HI.out k] at HK
      have HX : Hid (kindAt m l k = 0 → ∀ j, j < k + 1 → kindAt m l j = 0) := fun e j hj => by
        rcases Nat.lt_or_ge j k with q | q
        · exact HA.out j q
        · obtain rfl : j = k := by omega
          exact e
      have HY : Hid (kindAt m l k ≠ 0 → R = k) := fun e => HS.out k hlt HA.out e
      generalize kindAt m l k = c at HK HX HY
      generalize l.getD k default = q at *
      obtain ⟨lo, hi, vl⟩ := q
      simp only [] at *
      have hklz : (k : Int) < (l.length : Int) := by omega
      by_cases hc : c = 0
      · rw [decide_eq_false (by simpa using hc)] at HK
        have HE2 := Hid.mk' (HX.out hc)
        clear hc HX HY
        go_wp2_with fail
        refine HK.out.mono ?_
        rintro e w1 ⟨rfl, hb1⟩
        go_wp2
        go_roundw
        case rel => exact ⟨k + 1, by omega, by go_num, HE2, hb.trans (hb1.mono hb.size)⟩
        case measure => simp [intOf]; omega
      · rw [decide_eq_true (by simpa using hc)] at HK
        have HR := Hid.mk' (HY.out hc)
        clear hc HX HY
        go_wp2_with fail
        refine HK.out.mono ?_
        rintro e w1 ⟨rfl, hb1⟩
        go_wp2
        go_ret
        exact ⟨ret_int HR.out.symm, hb.trans (hb1.mono hb.size)⟩
    · obtain rfl : k = l.length := by omega
      have HR := Hid.mk' (HN.out HA.out)
      go_wp2
      go_ret
      exact ⟨ret_int HR.out.symm, hb⟩
set_option maxHeartbeats 4000000 in
theorem checkTable_any (v : Value) (l : List Rg) (m : Nat) (w : World) (p : Nat → Addr) (hg : Gl p w) (hT : Tab w v l) (hl : l.length ≤ 2147483648) :
    Calls Tryd.prog 27 #[v, .int .i64 m] w fun e w' => ∃ fv, e = .returned fv ∧ Says w' fv w.heap.size p (chkT l m) ∧ Below w.heap.size w w' := by
  obtain ⟨W0, hW0⟩ : ∃ W0, w.alloc (.cells #[.int .i64 (m : Int)] 3) = W0 := ⟨_, rfl⟩
  have hsz0 : W0.heap.size = w.heap.size + 1 := by rw [← hW0, World.size_alloc]
  have hb0 : Below w.heap.size w W0 := by rw [← hW0]; exact (Below.refl _ w).alloc (Nat.le_refl _) _
  have e0 : W0.cell? ⟨w.heap.size, 0, none⟩ = some (.int .i64 (m : Int)) := by rw [← hW0, World.cell?_alloc_new]; rfl
  have HC := Hid.mk' (check_any v l W0 p (hg.below hb0) (hT.below hb0) hl)
  have HE : Hid (∀ W, Below W0.heap.size W0 W → W.cell? ⟨w.heap.size, 0, none⟩ = some (.int .i64 (m : Int)) ∧ Below w.heap.size w W) := fun W hb => ⟨(hb.cell (p := ⟨w.heap.size, 0, none⟩) (lt_of_cell e0)).trans e0, hb0.trans (hb.mono hb0.size)⟩
  have HX : Hid (0 < m → ∀ W, Below w.heap.size w W → W.cell? ⟨w.heap.size, 0, none⟩ = some (.int .i64 (m : Int)) → _) := fun h0 W hb he => indexKind_any m h0 w.heap.size v l W (hT.below hb) hl he
  have HG : Hid (∀ W, Below w.heap.size w W → Gl p W) := fun W hb => hg.below hb
  have HOE : Hid ((chk l).2 ≠ 0 → chkT l m = chk l) := fun h => orE_l h
  have HOR : Hid ((chk l).2 = 0 → chkT l m = ff (kindAt m l) l.length) := fun h => orE_r h
  have HZ : Hid (m = 0 → ff (kindAt m l) l.length = (0, 0)) := fun h => ff_none _ _ fun i _ => by unfold kindAt; rw [if_neg (by omega)]
  have HI : Hid (∀ x, idxK m l = x → (x = -1 ∧ ff (kindAt m l) l.length = (0, 0)) ∨ (∃ k : Nat, x = k ∧ ff (kindAt m l) l.length = (k, 17))) := fun x hx => by
    unfold idxK at hx
    by_cases h : (ff (kindAt m l) l.length).2 = 0
    · rw [if_pos h] at hx
      refine .inl ⟨hx.symm, ff_none _ _ (ff_zero _ _ h)⟩
    · rw [if_neg h] at hx
      obtain ⟨k, _, _, h2, h3⟩ := ff_ne _ _ h
      refine .inr ⟨k, by rw [← hx, h3], ?_⟩
      rw [h3]
      have : kindAt m l k = 17 := by
        unfold kindAt at h2 ⊢
        split
        · rfl
        · rename_i g; rw [if_neg g] at h2; exact absurd rfl h2
      rw [this]
  obtain ⟨a, cap, rfl, -⟩ := hT
  generalize chkT l m = res at *
  generalize idxK m l = ix at *
  generalize ff (kindAt m l) l.length = fk at *
  clear hg hb0
  go_enter Tryd.func27, Tryd.ntmps27
  go_wp2_with fail
  refine HC.out.mono ?_
  rintro e w1 ⟨fv, rfl, hsay, hb1⟩
  obtain ⟨k1, hbw1⟩ := HE.out w1 hb1
  rcases hsay with ⟨hz, rfl⟩ | ⟨hnz, hf⟩
  · have hor := HOR.out (by rw [hz])
    subst hor
    clear HOE HOR hz HC e0
    by_cases hm : m = 0
    · have hfk := Hid.mk' (HZ.out hm)
      subst hm
      go_wp2
      go_ret
      exact ⟨_, rfl, .inl ⟨hfk.out, rfl⟩, hbw1⟩
    · have HK := Hid.mk' (HX.out (by omega) w1 hbw1 k1)
      have hmz : ((m : Int) == 0) = false := by simp; omega
      have g17 := (HG.out w1 hbw1).g17
      rcases HI.out ix rfl with ⟨rfl, hfk0⟩ | ⟨k, rfl, hfk0⟩
      · have hfk := Hid.mk' hfk0
        clear hfk0 HX HI HZ hm
        go_wp2_with fail
        refine HK.out.mono ?_
        rintro e w2 ⟨rfl, hb2⟩
        go_wp2
        go_ret
        exact ⟨_, rfl, .inl ⟨hfk.out, rfl⟩, hbw1.trans (hb2.mono hbw1.size)⟩
      · have hfk := Hid.mk' hfk0
        have hk0 : decide ((0 : Int) ≤ (k : Int)) = true := decide_eq_true (by omega)
        have hk1 : decide ((k : Int) < 0) = false := decide_eq_false (by omega)
        clear hfk0 HX HI HZ hm
        go_wp2_with fail
        refine HK.out.mono ?_
        rintro e w2 ⟨rfl, hb2⟩
        have hbw2 := hbw1.trans (hb2.mono hbw1.size)
        have g17' := (HG.out w2 hbw2).g17
        clear g17
        go_wp2
        go_ret
        refine ⟨_, rfl, ?_, hbw2.alloc hbw2.size _⟩
        rw [hfk.out]
        exact .inr ⟨by simp, flt_new hbw2.size _ _⟩
  · have hor := HOE.out hnz
    subst hor
    have HF : Hid (Flt w1 fv W0.heap.size (chk l).1 (p (chk l).2)) := hf
    obtain ⟨b, hbb, rfl, -, -⟩ := hf
    have HNZ := Hid.mk' hnz
    clear HOE HOR hnz HC HX HG e0 k1
    go_wp2
    go_ret
    exact ⟨_, rfl, .inr ⟨HNZ.out, HF.out.weaken (by omega) rfl⟩, hbw1⟩
end Go.Proofs.YtlnehhfljjeifaaDoor
namespace Go.Proofs.YtlnehhfljjeifaaDoor
open Go.RowKit Go.Shelf

set_option maxRecDepth 20000 in
set_option maxHeartbeats 8000000 in
theorem check7_any (a : Nat → Option Addr) (c : Nat → Nat) (t : Nat → List Rg) (w : World) (p : Nat → Addr) (hg : Gl p w) (hT : PT w a c t) (hl : ∀ i, i < 11 → (t i).length ≤ 2147483648) :
    Calls Tryd.prog 13 #[PV a c t] w fun e w' => ∃ fv, e = .returned fv ∧ Says w' fv w.heap.size p (chk7 t) ∧ Below w.heap.size w w' := by
  unfold PV
  obtain ⟨W0, hW0, hsz0, hb0, hp⟩ := prop_box w a c t
  have e0 := hp 0 (by omega)
  have e1 := hp 1 (by omega)
  have e2 := hp 2 (by omega)
  have e3 := hp 3 (by omega)
  have e4 := hp 4 (by omega)
  have e5 := hp 5 (by omega)
  have e6 := hp 6 (by omega)
  have e7 := hp 7 (by omega)
  have e8 := hp 8 (by omega)
  have e9 := hp 9 (by omega)
  have e10 := hp 10 (by omega)
  obtain ⟨W1, hW1⟩ : ∃ W1, W0.alloc (.cells #[.slice (a 0) (t 0).length (c 0), .int .i64 5, .slice (a 1) (t 1).length (c 1), .int .i64 0, .slice (a 2) (t 2).length (c 2), .int .i64 0, .slice (a 3) (t 3).length (c 3), .int .i64 0, .slice (a 4) (t 4).length (c 4), .int .i64 0, .slice (a 5) (t 5).length (c 5), .int .i64 0, .slice (a 6) (t 6).length (c 6), .int .i64 0, .slice (a 7) (t 7).length (c 7), .int .i64 4, .slice (a 8) (t 8).length (c 8), .int .i64 5, .slice (a 9) (t 9).length (c 9), .int .i64 11, .slice (a 10) (t 10).length (c 10), .int .i64 0] 60) = W1 := ⟨_, rfl⟩
  have hsz1 : W1.heap.size = w.heap.size + 2 := by rw [← hW1, World.size_alloc, hsz0]
  have hb1 : Below W0.heap.size W0 W1 := by rw [← hW1]; exact (Below.refl _ _).alloc (Nat.le_refl _) _
  have hbw1 : Below w.heap.size w W1 := hb0.trans (hb1.mono hb0.size)
  have cf : ∀ i, i < 11 → W1.cell? ⟨w.heap.size + 1, i * 2, none⟩ = some (.slice (a i) (t i).length (c i)) ∧ W1.cell? ⟨w.heap.size + 1, i * 2 + 1, none⟩ = some (.int .i64 (mst i : Int)) := fun i hi => by
    have q : ∀ j, W1.cell? ⟨w.heap.size + 1, j, none⟩ = (#[.slice (a 0) (t 0).length (c 0), .int .i64 5, .slice (a 1) (t 1).length (c 1), .int .i64 0, .slice (a 2) (t 2).length (c 2), .int .i64 0, .slice (a 3) (t 3).length (c 3), .int .i64 0, .slice (a 4) (t 4).length (c 4), .int .i64 0, .slice (a 5) (t 5).length (c 5), .int .i64 0, .slice (a 6) (t 6).length (c 6), .int .i64 0, .slice (a 7) (t 7).length (c 7), .int .i64 4, .slice (a 8) (t 8).length (c 8), .int .i64 5, .slice (a 9) (t 9).length (c 9), .int .i64 11, .slice (a 10) (t 10).length (c 10), .int .i64 0] : Array Value)[j]? := fun j => by rw [← hW1, ← hsz0, World.cell?_alloc_new]
    rcases (by omega : i = 0 ∨ i = 1 ∨ i = 2 ∨ i = 3 ∨ i = 4 ∨ i = 5 ∨ i = 6 ∨ i = 7 ∨ i = 8 ∨ i = 9 ∨ i = 10) with rfl | rfl | rfl | rfl | rfl | rfl | rfl | rfl | rfl | rfl | rfl <;> exact ⟨(q _).trans rfl, (q _).trans rfl⟩
  have HT : Hid (∀ W, Below (w.heap.size + 2) W1 W → Below w.heap.size w W ∧ ∀ i, i < 11 → (W.cell? ⟨w.heap.size + 1, i * 2, none⟩ = some (.slice (a i) (t i).length (c i)) ∧ W.cell? ⟨w.heap.size + 1, i * 2 + 1, none⟩ = some (.int .i64 (mst i : Int)))) := fun W hb => by
    refine ⟨hbw1.trans (hb.mono (by omega)), fun i hi => ?_⟩
    obtain ⟨q1, q2⟩ := cf i hi
    exact ⟨(hb.cell (p := ⟨w.heap.size + 1, i * 2, none⟩) (by show w.heap.size + 1 < _; omega)).trans q1, (hb.cell (p := ⟨w.heap.size + 1, i * 2 + 1, none⟩) (by show w.heap.size + 1 < _; omega)).trans q2⟩
  have HC : Hid (∀ W, Below w.heap.size w W → ∀ i, i < 11 → _) := fun W hb i hi => checkTable_any (.slice (a i) (t i).length (c i)) (t i) (mst i) W p (hg.below hb) ((hT i hi).below hb) (hl i hi)
  have HAT : Hid (∀ k, k < 11 → (∀ i, i < k → (chkT (t i) (mst i)).2 = 0) → (chkT (t k) (mst k)).2 ≠ 0 → chk7 t = chkT (t k) (mst k)) := fun k hk h0 h => chk7_at hk h0 h
  have HNO : Hid ((∀ i, i < 11 → (chkT (t i) (mst i)).2 = 0) → chk7 t = (0, 0)) := chk7_none
  generalize chk7 t = res at *
  clear hp cf hg hT hl hb0 hb1 hbw1
  go_enter Tryd.func13, Tryd.ntmps13
  go_wp2
  clear e0 e1 e2 e3 e4 e5 e6 e7 e8 e9 e10
  go_loopw [43] (fun y wr => ∃ k : Nat, y = .int .i64 k ∧ k ≤ 11 ∧ Hid (∀ i, i < k → (chkT (t i) (mst i)).2 = 0) ∧ Below (w.heap.size + 2) W1 wr) (fun y _ => 11 - (intOf y).toNat)
  case atStart => exact ⟨0, rfl, by omega, fun i hi => by omega, Below.refl _ _⟩
  case round =>
    obtain ⟨k, rfl, hk, hok, hb⟩ := hrel
    obtain ⟨hbw, HTk⟩ := HT.out wr hb
    have hszr : w.heap.size + 2 ≤ wr.heap.size := by have := hb.size; omega
    by_cases hlt : k < 11
    · obtain ⟨q1, q2⟩ := HTk k hlt
      have HCk : Hid (∀ W, Below w.heap.size w W → _) := fun W hb => HC.out W hb k hlt
      have HA := Hid.mk' (fun h => HAT.out k hlt hok.out h)
      have HOK : Hid ((chkT (t k) (mst k)).2 = 0 → ∀ i, i < k + 1 → (chkT (t i) (mst i)).2 = 0) := fun hd i hi => by
        rcases Nat.lt_or_ge i k with g | g
        · exact hok.out i g
        · obtain rfl : i = k := by omega
          exact hd
      generalize chkT (t k) (mst k) = x at *
      generalize (t k).length = n at *
      generalize a k = ak at *
      generalize c k = ck at *
      generalize mst k = mk at *
      obtain ⟨WA, hWA⟩ : ∃ WA, wr.alloc (.cells #[.slice ak n ck, .int .i64 (mk : Int)] 60) = WA := ⟨_, rfl⟩
      have hbA : Below wr.heap.size wr WA := by rw [← hWA]; exact (Below.refl _ _).alloc (Nat.le_refl _) _
      have hbwA : Below w.heap.size w WA := hbw.trans (hbA.mono hbw.size)
      have HB := Hid.mk' (hb.trans (hbA.mono hszr))
      have r0 : WA.cell? ⟨wr.heap.size, 0, none⟩ = some (.slice ak n ck) := by rw [← hWA, World.cell?_alloc_new]; rfl
      have r1 : WA.cell? ⟨wr.heap.size, 1, none⟩ = some (.int .i64 (mk : Int)) := by rw [← hWA, World.cell?_alloc_new]; rfl
      have hszA : w.heap.size + 2 ≤ WA.heap.size := by have := hbA.size; omega
      have HCA := Hid.mk' (HCk.out WA hbwA)
      have hklz : (k : Int) < 11 := by omega
      clear HTk HCk HAT HNO HT HC hbA
      go_wp2_with fail
      refine HCA.out.mono ?_
      rintro e w2 ⟨fv, rfl, hsay, hb2⟩
      have hbw2 := hbwA.trans (hb2.mono hbwA.size)
      have HB2 := Hid.mk' (HB.out.trans (hb2.mono hszA))
      rcases hsay with ⟨hz, rfl⟩ | ⟨hnz, hf⟩
      · have hok' := Hid.mk' (HOK.out (by rw [hz]))
        clear hz
        go_wp2
        go_roundw
        case rel => exact ⟨k + 1, by go_num, by omega, hok', HB2.out⟩
        case measure => simp [intOf]; omega
      · have hres := Hid.mk' (HA.out hnz)
        have HF := Hid.mk' hf
        have HNZ := Hid.mk' hnz
        obtain ⟨b, hbb, rfl, -, -⟩ := hf
        clear hnz
        go_wp2
        go_ret
        refine ⟨_, rfl, ?_, hbw2⟩
        rw [hres.out]
        exact .inr ⟨HNZ.out, HF.out.weaken (by omega) rfl⟩
    · obtain rfl : k = 11 := by omega
      have hres := Hid.mk' (HNO.out hok.out)
      clear HTk HT HC HAT
      go_wp2
      go_ret
      exact ⟨_, rfl, .inl ⟨hres.out, rfl⟩, hbw⟩
end Go.Proofs.YtlnehhfljjeifaaDoor

/-
  What is proved here: what jsonval.faultOf answers.
-/
import Derived.Test.YtjjoedkigjekcaaGreatDoorK5
import Derived.Test.YtjjoedkigjekcaaGreatDoorJ8
namespace Go.Proofs.YtjjoedkigjekcaaGreatDoor
open Go.RowKit

/-- the named error of a number; none of 0 -/
def errV (p : Nat → Addr) (c : Nat) : Value := if c = 0 then .nilIface else .iface 185 (.pointer (some (p c)))
theorem formB_bad (k : Int) (s : List UInt8) (la lb : Nat) : formB k s la lb = !badF k s la lb := by
  unfold formB badF
  rw [decide_not]
theorem form_texts {k : Int} {s : List UInt8} {la : Nat} {ns : List (List UInt8)} (h : badF k s la ns.length = false) :
    (if (decide (k = 4) && !gd s) = true then 1 else one3 gd ns) = if (gd s && ns.all gd) = true then one4 ns else 1 := by
  have h' := of_decide_eq_false h
  unfold one3
  by_cases h4 : k = 4
  · cases hg : gd s <;> cases ha : ns.all gd <;> simp [h4]
  · have hgs : gd s = true := by
      by_cases h3 : k = 3
      · have hw : writtenM s = true := by
          cases e : writtenM s with
          | true => rfl
          | false => exact absurd (.inr (.inr (.inr ⟨h3, e⟩))) h'
        exact gd_written hw
      · have : s = [] := by
          rcases s with _ | ⟨c, s⟩
          · rfl
          · exact absurd (.inl ⟨h3, h4, by simp⟩) h'
        rw [this]; exact gd_nil
    cases ha : ns.all gd <;> simp [h4, hgs]
set_option maxRecDepth 20000 in
set_option maxHeartbeats 8000000 in
theorem faultOf_any (k : Int) (s : List UInt8) (a : Option Addr) (la ca : Nat) (m : List (List UInt8 × J)) (b : Option Addr) (cb lv : Nat) (w : World) (p : Nat → Addr) (hg : Gl p w) (hM : MemAt w b m) (hs : ∀ x ∈ m, x.1.length ≤ 4000) (hml : m.length ≤ 4000) (hsl : s.length ≤ 4000) :
    Calls Tryz.prog 58 #[.agg #[.int .i64 k, .string (strL s), .slice a la ca, .slice b m.length cb], .int .i64 lv] w fun e w' => e = .returned (errV p (oneM gd lv k s la (m.map fun x => x.1))) ∧ Below w.heap.size w w' := by
  obtain ⟨W0, hW0, hsz, hb0, e0, e1, e2, e3⟩ := val_box w (.int .i64 k) (.string (strL s)) (.slice a la ca) (.slice b m.length cb)
  have hlen : (m.map fun x => x.1).length = m.length := by simp
  have HG : Hid (∀ W, Below w.heap.size w W → Gl p W) := fun W hb => hg.below hb
  have HFO : Hid (∀ W, _) := fun W => isFormed_any k s a la ca b m.length cb W
  have HWF : Hid (∀ W, Below w.heap.size w W → Calls Tryz.prog 73 #[.agg #[.int .i64 k, .string (strL s), .slice a la ca, .slice b m.length cb]] W fun e w' => e = .returned (.bool (gd s && (m.map fun x => x.1).all gd)) ∧ Below W.heap.size W w') := fun W hb => isWellFormed_any k s a la ca m b cb W p (hg.below hb) (hM.below hb) hs hml hsl
  have HTW : Hid (∀ W, Below w.heap.size w W → Calls Tryz.prog 74 #[.slice b m.length cb] W fun e w' => e = .returned (.bool (decide (¬ (m.map fun x => x.1).Nodup))) ∧ Below W.heap.size W w') := fun W hb => isTwice_any m b cb W (hM.below hb) hml
  have HE : Hid (∀ W, Below W0.heap.size W0 W → (W.cell? ⟨w.heap.size, 0, none⟩ = some (.int .i64 k) ∧ W.cell? ⟨w.heap.size, 1, none⟩ = some (.string (strL s)) ∧ W.cell? ⟨w.heap.size, 2, none⟩ = some (.slice a la ca) ∧ W.cell? ⟨w.heap.size, 3, none⟩ = some (.slice b m.length cb)) ∧ Below w.heap.size w W) := fun W hb =>
    ⟨⟨(hb.cell (lt_of_cell e0)).trans e0, (hb.cell (lt_of_cell e1)).trans e1, (hb.cell (lt_of_cell e2)).trans e2, (hb.cell (lt_of_cell e3)).trans e3⟩, hb0.trans (hb.mono hb0.size)⟩
  have HT : Hid (∀ W W', Below W0.heap.size W0 W → Below W.heap.size W W' → Below W0.heap.size W0 W') := below_tr
  obtain ⟨R, hR⟩ : ∃ R, oneM gd lv k s la (m.map fun x => x.1) = R := ⟨_, rfl⟩
  rw [hR]
  have HRR : Hid (¬ 32 < lv → ¬ (k < 0 ∨ 6 < k) → R = if badF k s la m.length = true then 5 else if (gd s && (m.map fun x => x.1).all gd) = true then one4 (m.map fun x => x.1) else 1) := fun h1 h2 => by
    rw [← hR, oneM_form h1 h2, hlen]
    cases hb : badF k s la m.length with
    | true => rfl
    | false => exact form_texts (by rw [hlen]; exact hb)
  have HFB := formB_bad k s la m.length
  rw [HFB] at HFO
  generalize (m.map fun x => x.1) = ns at *
  generalize hmm : m.length = mm at *
  have hg0 := HG.out W0 hb0
  have q9 := hg0.g9
  have q17 := hg0.g17
  generalize strL s = S at *
  generalize badF k s la mm = bad at *
  clear hM hg hg0 hs HFB hmm
  by_cases h1 : 32 < lv
  · have hR9 : R = 9 := hR.symm.trans (oneM_deep h1)
    subst hR9
    clear hR HFO HWF HTW HE HT HG HRR
    go_enter Tryz.func58, Tryz.ntmps58
    go_wp2
    go_ret
    exact ⟨rfl, hb0⟩
  have hd1 : decide ((lv : Int) > 32) = false := by rw [decide_eq_false_iff_not]; omega
  have hd2 : decide ((32 : Int) < lv) = false := by rw [decide_eq_false_iff_not]; omega
  have hd3 : decide (32 < lv) = false := by rw [decide_eq_false_iff_not]; omega
  by_cases h2 : k < 0 ∨ 6 < k
  · have hR9 : R = 17 := hR.symm.trans (oneM_kind h1 h2)
    subst hR9
    clear hR HFO HWF HTW HE HT HG HRR
    rcases h2 with h2 | h2
    all_goals
      go_enter Tryz.func58, Tryz.ntmps58
      go_wp2
      go_ret
      exact ⟨rfl, hb0⟩
  have hRR := HRR.out h1 h2
  have HF0 := Hid.mk' (HFO.out W0)
  have hst : Below W0.heap.size W0 W0 := Below.refl _ _
  have hk1 : decide (k < 0) = false := by rw [decide_eq_false_iff_not]; omega
  have hk2 : decide (k > 6) = false := by rw [decide_eq_false_iff_not]; omega
  have hk3 : decide (6 < k) = false := by rw [decide_eq_false_iff_not]; omega
  clear hR HRR HFO h2 q9 q17
  cases bad with
  | true =>
    have hR5 : R = 5 := hRR
    subst hR5
    clear HWF HTW hRR
    go_enter Tryz.func58, Tryz.ntmps58
    go_wp2_with fail
    refine HF0.out.mono ?_
    rintro e w1 ⟨rfl, hb1⟩
    obtain ⟨-, hfin⟩ := HE.out _ hb1
    have q5 := (HG.out _ hfin).g5
    clear HF0 HE HT HG
    go_wp2
    go_ret
    exact ⟨rfl, hfin⟩
  | false =>
    obtain ⟨zw, hzw⟩ : ∃ zw, (gd s && ns.all gd) = zw := ⟨_, rfl⟩
    rw [hzw] at HWF
    replace hRR : R = if (gd s && ns.all gd) = true then one4 ns else 1 := hRR
    rw [hzw] at hRR
    clear hzw
    go_enter Tryz.func58, Tryz.ntmps58
    go_wp2_with fail
    refine HF0.out.mono ?_
    rintro e w1 ⟨rfl, hb1⟩
    obtain ⟨⟨f0, f1, f2, f3⟩, hfin⟩ := HE.out _ hb1
    have HW1 := Hid.mk' (HWF.out _ hfin)
    clear HF0 e0 e1 e2 e3 HWF
    cases zw with
    | false =>
      have hR1 : R = 1 := hRR
      subst hR1
      clear HTW hRR
      go_wp2_with fail
      refine HW1.out.mono ?_
      rintro e w2 ⟨rfl, hb2⟩
      have hfin2 := hfin.trans (hb2.mono hfin.size)
      have q1 := (HG.out _ hfin2).g1
      clear HW1 HE HT HG
      go_wp2
      go_ret
      exact ⟨rfl, hfin2⟩
    | true =>
      replace hRR : R = one4 ns := hRR
      unfold one4 at hRR
      go_wp2_with fail
      refine HW1.out.mono ?_
      rintro e w2 ⟨rfl, hb2⟩
      have hfin2 := hfin.trans (hb2.mono hfin.size)
      obtain ⟨⟨h0, h1, h2, h3⟩, -⟩ := HE.out _ (HT.out _ _ hb1 hb2)
      have HT2 := Hid.mk' (HTW.out _ hfin2)
      clear HW1 f0 f1 f2 f3 HTW
      by_cases hnd : ns.Nodup
      · have hR0 : R = 0 := hRR.trans (if_pos hnd)
        subst hR0
        have hdz : decide (¬ ns.Nodup) = false := by simpa using hnd
        rw [hdz] at HT2
        clear hRR hnd hdz
        go_wp2_with fail
        refine HT2.out.mono ?_
        rintro e w3 ⟨rfl, hb3⟩
        have hfin3 := hfin2.trans (hb3.mono hfin2.size)
        clear HT2 HE HT HG
        go_wp2
        go_ret
        exact ⟨rfl, hfin3⟩
      · have hR7 : R = 7 := hRR.trans (if_neg hnd)
        subst hR7
        have hdz : decide (¬ ns.Nodup) = true := by simpa using hnd
        rw [hdz] at HT2
        clear hRR hnd hdz
        go_wp2_with fail
        refine HT2.out.mono ?_
        rintro e w3 ⟨rfl, hb3⟩
        have hfin3 := hfin2.trans (hb3.mono hfin2.size)
        have q7 := (HG.out _ hfin3).g7
        clear HT2 HE HT HG
        go_wp2
        go_ret
        exact ⟨rfl, hfin3⟩
end Go.Proofs.YtjjoedkigjekcaaGreatDoor

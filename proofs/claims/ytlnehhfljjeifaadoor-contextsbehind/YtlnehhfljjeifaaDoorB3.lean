/-
  What is proved here: what decomp.Check answers, where slices.Sort does what it says.
-/
import Derived.Test.YtlnehhfljjeifaaDoorB2
namespace Go.Proofs.YtlnehhfljjeifaaDoor
open Go.RowKit

theorem orE_assoc (a b c : Nat × Nat) : orE (orE a b) c = orE a (orE b c) := by
  unfold orE
  by_cases h : a.2 = 0
  · simp [h]
  · simp [h]
theorem Says.nil {w : World} {v : Value} {B : Nat} {p : Nat → Addr} {x : Nat × Nat} (h : Says w v B p x) : (x = (0, 0) ∧ v = .nilIface) ∨ (x.2 ≠ 0 ∧ Flt w v B x.1 (p x.2)) := h
set_option maxRecDepth 20000 in
set_option maxHeartbeats 8000000 in
theorem check4_any (a : Option Addr) (cap : Nat) (vc ve : Value) (t : Nm) (hcap : t.rows.length ≤ cap) (w : World) (p : Nat → Addr) (hg : Gl p w) (hR : Rows4 w (.slice a t.rows.length cap) t.rows) (hC : Tab w vc t.cls) (hE : Runes w ve t.exc) (hlc : t.cls.length ≤ 2147483648) (hle : t.exc.length ≤ 2147483648) (hlr : t.rows.length ≤ 2147483648) (hto : ∀ i, i < t.rows.length → (rw_ t.rows i).to.length ≤ 2147483648) (hs : t.rows.length ≤ 2000 → ∀ B, SortsAt t.rows.length B) :
    Calls Tryd.prog 12 #[.agg #[.slice a t.rows.length cap, vc, ve]] w fun e w' => ∃ fv, e = .returned fv ∧ Says w' fv w.heap.size p (chk4 t) ∧ Below w.heap.size w w' := by
  obtain ⟨ca, ccap, rfl, -⟩ := id hC
  obtain ⟨ea, ecap, rfl, -⟩ := id hE
  obtain ⟨W0, hW0⟩ : ∃ W0, w.alloc (.cells #[.slice a t.rows.length cap, .slice ca t.cls.length ccap, .slice ea t.exc.length ecap] 26) = W0 := ⟨_, rfl⟩
  have hsz0 : W0.heap.size = w.heap.size + 1 := by rw [← hW0, World.size_alloc]
  have hb0 : Below w.heap.size w W0 := by rw [← hW0]; exact (Below.refl _ w).alloc (Nat.le_refl _) _
  have e0 : W0.cell? ⟨w.heap.size, 0, none⟩ = some (.slice a t.rows.length cap) := by rw [← hW0, World.cell?_alloc_new]; rfl
  have e1 : W0.cell? ⟨w.heap.size, 1, none⟩ = some (.slice ca t.cls.length ccap) := by rw [← hW0, World.cell?_alloc_new]; rfl
  have e2 : W0.cell? ⟨w.heap.size, 2, none⟩ = some (.slice ea t.exc.length ecap) := by rw [← hW0, World.cell?_alloc_new]; rfl
  have g18 := (hg.below hb0).g18
  by_cases hbig : 2000 < t.rows.length ∨ 2000 < t.exc.length
  · have hsay : Hid (chk4 t = (0, 18)) := by
      show _ = _
      unfold chk4; rw [if_pos hbig]
    clear hR hC hE hs hto hg
    by_cases h1 : 2000 < t.rows.length
    · have d1 : decide ((2000 : Int) < (t.rows.length : Int)) = true := by simp; omega
      clear hbig h1
      go_enter Tryd.func12, Tryd.ntmps12
      go_wp2
      go_ret
      refine ⟨_, rfl, ?_, hb0.alloc hb0.size _⟩
      rw [hsay.out]
      have fl := flt_new (W := W0) hb0.size 0 (p 18)
      rw [hsz0] at fl
      exact .inr ⟨by simp, fl⟩
    · have d1 : decide ((2000 : Int) < (t.rows.length : Int)) = false := by simp; omega
      have d2 : decide ((2000 : Int) < (t.exc.length : Int)) = true := by simp; omega
      clear hbig h1
      go_enter Tryd.func12, Tryd.ntmps12
      go_wp2
      go_ret
      refine ⟨_, rfl, ?_, hb0.alloc hb0.size _⟩
      rw [hsay.out]
      have fl := flt_new (W := W0) hb0.size 0 (p 18)
      rw [hsz0] at fl
      exact .inr ⟨by simp, fl⟩
  · have hl1 : t.rows.length ≤ 2000 := by omega
    have d1 : decide ((2000 : Int) < (t.rows.length : Int)) = false := by simp; omega
    have d2 : decide ((2000 : Int) < (t.exc.length : Int)) = false := by simp; omega
    have hchk : Hid (chk4 t = orE (ff (rowCode t.rows) t.rows.length) (orE (orE (chk t.cls) (ff (clsCode t.cls) t.cls.length)) (orE (ff (excCode t.exc) t.exc.length) (ff (thereCode t) t.rows.length)))) := by
      show _ = _
      unfold chk4; rw [if_neg hbig, orE_assoc]
    have HR1 : Hid (∀ W, Below w.heap.size w W → _) := fun W hb => checkRows_any a cap (.slice ca t.cls.length ccap) (.slice ea t.exc.length ecap) t.rows hcap W p (hg.below hb) (hR.below hb) hl1 hto (hs hl1 _)
    have HR2 : Hid (∀ W, Below w.heap.size w W → _) := fun W hb => checkClasses_any (.slice a t.rows.length cap) (.slice ca t.cls.length ccap) (.slice ea t.exc.length ecap) t.cls W p (hg.below hb) (hC.below hb) hlc
    have HR3 : Hid (∀ W, Below w.heap.size w W → _) := fun W hb => checkExcluded_any (.slice a t.rows.length cap) (.slice ca t.cls.length ccap) (.slice ea t.exc.length ecap) t.exc W p (hg.below hb) (hE.below hb) hle
    have HR4 : Hid (∀ W, Below w.heap.size w W → (ff (rowCode t.rows) t.rows.length).2 = 0 → (orE (chk t.cls) (ff (clsCode t.cls) t.cls.length)).2 = 0 → (ff (excCode t.exc) t.exc.length).2 = 0 → _) := fun W hb h1 h2 h3 => by
      obtain ⟨h21, -⟩ := orE_zero h2
      obtain ⟨-, -, hap, hri⟩ := right_parts h21
      exact checkTwice_any (.slice a t.rows.length cap) (.slice ca t.cls.length ccap) (.slice ea t.exc.length ecap) t W p (hg.below hb) (hR.below hb) (hC.below hb) (hE.below hb) hl1 hlc hle hri hap (exc_rise (ff_zero _ _ h3)) (ff_zero _ _ h1)
    have f1 : ∀ args w, (callFunc 23 args).run Tryd.prog w = .ok (.enter 23 args) w := enters_of Tryd.func23 (by kernel_rfl) rfl
    have f2 : ∀ args w, (callFunc 24 args).run Tryd.prog w = .ok (.enter 24 args) w := enters_of Tryd.func24 (by kernel_rfl) rfl
    have f3 : ∀ args w, (callFunc 25 args).run Tryd.prog w = .ok (.enter 25 args) w := enters_of Tryd.func25 (by kernel_rfl) rfl
    have f4 : ∀ args w, (callFunc 26 args).run Tryd.prog w = .ok (.enter 26 args) w := enters_of Tryd.func26 (by kernel_rfl) rfl
    generalize ff (rowCode t.rows) t.rows.length = x1 at *
    generalize orE (chk t.cls) (ff (clsCode t.cls) t.cls.length) = x2 at *
    generalize ff (excCode t.exc) t.exc.length = x3 at *
    generalize ff (thereCode t) t.rows.length = x4 at *
    obtain ⟨W1, hW1⟩ : ∃ W1, W0.alloc (.cells #[.func (.func 23) #[] #[], .func (.func 24) #[] #[], .func (.func 25) #[] #[], .func (.func 26) #[] #[]] 43) = W1 := ⟨_, rfl⟩
    have hsz1 : W1.heap.size = w.heap.size + 2 := by rw [← hW1, World.size_alloc, hsz0]
    have hb1 : Below W0.heap.size W0 W1 := by rw [← hW1]; exact (Below.refl _ _).alloc (Nat.le_refl _) _
    have cf : ∀ j, W1.cell? ⟨w.heap.size + 1, j, none⟩ = (#[Value.func (.func 23) #[] #[], .func (.func 24) #[] #[], .func (.func 25) #[] #[], .func (.func 26) #[] #[]] : Array Value)[j]? := fun j => by rw [← hW1, ← hsz0, World.cell?_alloc_new]
    have HE : Hid (∀ W, Below (w.heap.size + 2) W1 W → (W.cell? ⟨w.heap.size, 0, none⟩ = some (.slice a t.rows.length cap) ∧ W.cell? ⟨w.heap.size, 1, none⟩ = some (.slice ca t.cls.length ccap) ∧ W.cell? ⟨w.heap.size, 2, none⟩ = some (.slice ea t.exc.length ecap)) ∧ Below w.heap.size w W) := fun W hb => by
      have q : ∀ j v, W0.cell? ⟨w.heap.size, j, none⟩ = some v → W.cell? ⟨w.heap.size, j, none⟩ = some v := fun j v h => by
        rw [hb.cell (p := ⟨w.heap.size, j, none⟩) (by show w.heap.size < _; omega), hb1.cell (p := ⟨w.heap.size, j, none⟩) (by show w.heap.size < _; omega)]; exact h
      exact ⟨⟨q 0 _ e0, q 1 _ e1, q 2 _ e2⟩, hb0.trans ((hb1.mono hb0.size).trans (hb.mono (by omega)))⟩
    have HF : Hid (∀ W, Below (w.heap.size + 2) W1 W → ∀ j, W.cell? ⟨w.heap.size + 1, j, none⟩ = (#[Value.func (.func 23) #[] #[], .func (.func 24) #[] #[], .func (.func 25) #[] #[], .func (.func 26) #[] #[]] : Array Value)[j]?) := fun W hb j => (hb.cell (p := ⟨w.heap.size + 1, j, none⟩) (by show w.heap.size + 1 < _; omega)).trans (cf j)
    have HX : Hid (x1 = (0, 0) → x2 = (0, 0) → x3 = (0, 0) → chk4 t = x4) := fun h1 h2 h3 => by rw [hchk.out, h1, h2, h3]; rfl
    have HX3 : Hid (x1 = (0, 0) → x2 = (0, 0) → x3.2 ≠ 0 → chk4 t = x3) := fun h1 h2 h3 => by rw [hchk.out, h1, h2]; show orE x3 x4 = x3; exact orE_l h3
    have HX2 : Hid (x1 = (0, 0) → x2.2 ≠ 0 → chk4 t = x2) := fun h1 h2 => by rw [hchk.out, h1]; show orE x2 _ = x2; exact orE_l h2
    have HX1 : Hid (x1.2 ≠ 0 → chk4 t = x1) := fun h1 => by rw [hchk.out]; exact orE_l h1
    clear hR hC hE hs hto hg hchk g18 hbig hb0 cf hb1
    go_enter Tryd.func12, Tryd.ntmps12
    go_wp2
    go_loopw [22] (fun y wr => ∃ k : Nat, y = .int .i64 k ∧ k ≤ 4 ∧ Hid ((0 < k → x1 = (0, 0)) ∧ (1 < k → x2 = (0, 0)) ∧ (2 < k → x3 = (0, 0)) ∧ (3 < k → x4 = (0, 0))) ∧ Below (w.heap.size + 2) W1 wr) (fun y _ => 4 - (intOf y).toNat)
    case atStart => exact ⟨0, rfl, by omega, ⟨by omega, by omega, by omega, by omega⟩, Below.refl _ _⟩
    case round =>
      obtain ⟨k, rfl, hk, hm, hb⟩ := hrel
      obtain ⟨⟨k0, k1, k2⟩, hbw⟩ := HE.out wr hb
      have hszr : w.heap.size + 2 ≤ wr.heap.size := by have := hb.size; omega
      clear e0 e1 e2
      rcases (by omega : k = 0 ∨ k = 1 ∨ k = 2 ∨ k = 3 ∨ k = 4) with rfl | rfl | rfl | rfl | rfl
      · have c := HF.out wr hb 0
        simp only [List.getElem?_toArray, List.getElem?_cons_zero] at c
        have HC := Hid.mk' (HR1.out wr hbw)
        go_wp2_with fail
        refine HC.out.mono ?_
        rintro e w1 ⟨fv, rfl, hsay, hb1⟩
        have hbw1 := hbw.trans (hb1.mono hbw.size)
        rcases hsay.nil with ⟨hz, rfl⟩ | ⟨hnz, hf⟩
        · have hm' : Hid ((0 < 1 → x1 = (0, 0)) ∧ (1 < 1 → x2 = (0, 0)) ∧ (2 < 1 → x3 = (0, 0)) ∧ (3 < 1 → x4 = (0, 0))) := ⟨fun _ => hz, by omega, by omega, by omega⟩
          clear hsay hz
          go_wp2
          go_roundw
          case rel => exact ⟨1, rfl, by omega, hm', hb.trans (hb1.mono hszr)⟩
          case measure => simp [intOf]
        · have hX := Hid.mk' (HX1.out hnz)
          have HFL := Hid.mk' hf
          have HNZ := Hid.mk' hnz
          obtain ⟨fb, -, rfl, -, -⟩ := hf
          clear hsay hnz
          go_wp2
          go_ret
          exact ⟨_, rfl, by rw [hX.out]; exact .inr ⟨HNZ.out, HFL.out.weaken hbw.size rfl⟩, hbw1⟩
      · have c := HF.out wr hb 1
        simp only [List.getElem?_toArray, List.getElem?_cons_succ, List.getElem?_cons_zero] at c
        have HC := Hid.mk' (HR2.out wr hbw)
        go_wp2_with fail
        refine HC.out.mono ?_
        rintro e w1 ⟨fv, rfl, hsay, hb1⟩
        have hbw1 := hbw.trans (hb1.mono hbw.size)
        rcases hsay.nil with ⟨hz, rfl⟩ | ⟨hnz, hf⟩
        · have hm' : Hid ((0 < 2 → x1 = (0, 0)) ∧ (1 < 2 → x2 = (0, 0)) ∧ (2 < 2 → x3 = (0, 0)) ∧ (3 < 2 → x4 = (0, 0))) := ⟨fun _ => hm.out.1 (by omega), fun _ => hz, by omega, by omega⟩
          clear hsay hz
          go_wp2
          go_roundw
          case rel => exact ⟨2, rfl, by omega, hm', hb.trans (hb1.mono hszr)⟩
          case measure => simp [intOf]
        · have hX := Hid.mk' (HX2.out (hm.out.1 (by omega)) hnz)
          have HFL := Hid.mk' hf
          have HNZ := Hid.mk' hnz
          obtain ⟨fb, -, rfl, -, -⟩ := hf
          clear hsay hnz
          go_wp2
          go_ret
          exact ⟨_, rfl, by rw [hX.out]; exact .inr ⟨HNZ.out, HFL.out.weaken hbw.size rfl⟩, hbw1⟩
      · have c := HF.out wr hb 2
        simp only [List.getElem?_toArray, List.getElem?_cons_succ, List.getElem?_cons_zero] at c
        have HC := Hid.mk' (HR3.out wr hbw)
        go_wp2_with fail
        refine HC.out.mono ?_
        rintro e w1 ⟨fv, rfl, hsay, hb1⟩
        have hbw1 := hbw.trans (hb1.mono hbw.size)
        rcases hsay.nil with ⟨hz, rfl⟩ | ⟨hnz, hf⟩
        · have hm' : Hid ((0 < 3 → x1 = (0, 0)) ∧ (1 < 3 → x2 = (0, 0)) ∧ (2 < 3 → x3 = (0, 0)) ∧ (3 < 3 → x4 = (0, 0))) := ⟨fun _ => hm.out.1 (by omega), fun _ => hm.out.2.1 (by omega), fun _ => hz, by omega⟩
          clear hsay hz
          go_wp2
          go_roundw
          case rel => exact ⟨3, rfl, by omega, hm', hb.trans (hb1.mono hszr)⟩
          case measure => simp [intOf]
        · have hX := Hid.mk' (HX3.out (hm.out.1 (by omega)) (hm.out.2.1 (by omega)) hnz)
          have HFL := Hid.mk' hf
          have HNZ := Hid.mk' hnz
          obtain ⟨fb, -, rfl, -, -⟩ := hf
          clear hsay hnz
          go_wp2
          go_ret
          exact ⟨_, rfl, by rw [hX.out]; exact .inr ⟨HNZ.out, HFL.out.weaken hbw.size rfl⟩, hbw1⟩
      · have c := HF.out wr hb 3
        simp only [List.getElem?_toArray, List.getElem?_cons_succ, List.getElem?_cons_zero] at c
        have HC := Hid.mk' (HR4.out wr hbw (by rw [hm.out.1 (by omega)]) (by rw [hm.out.2.1 (by omega)]) (by rw [hm.out.2.2.1 (by omega)]))
        go_wp2_with fail
        refine HC.out.mono ?_
        rintro e w1 ⟨fv, rfl, hsay, hb1⟩
        have hbw1 := hbw.trans (hb1.mono hbw.size)
        rcases hsay.nil with ⟨hz, rfl⟩ | ⟨hnz, hf⟩
        · have hm' : Hid ((0 < 4 → x1 = (0, 0)) ∧ (1 < 4 → x2 = (0, 0)) ∧ (2 < 4 → x3 = (0, 0)) ∧ (3 < 4 → x4 = (0, 0))) := ⟨fun _ => hm.out.1 (by omega), fun _ => hm.out.2.1 (by omega), fun _ => hm.out.2.2.1 (by omega), fun _ => hz⟩
          clear hsay hz
          go_wp2
          go_roundw
          case rel => exact ⟨4, rfl, by omega, hm', hb.trans (hb1.mono hszr)⟩
          case measure => simp [intOf]
        · have hX := Hid.mk' (HX.out (hm.out.1 (by omega)) (hm.out.2.1 (by omega)) (hm.out.2.2.1 (by omega)))
          have HFL := Hid.mk' hf
          have HNZ := Hid.mk' hnz
          obtain ⟨fb, -, rfl, -, -⟩ := hf
          clear hsay hnz
          go_wp2
          go_ret
          exact ⟨_, rfl, by rw [hX.out]; exact .inr ⟨HNZ.out, HFL.out.weaken hbw.size rfl⟩, hbw1⟩
      · have hX := Hid.mk' (HX.out (hm.out.1 (by omega)) (hm.out.2.1 (by omega)) (hm.out.2.2.1 (by omega)))
        have h4 := Hid.mk' (hm.out.2.2.2 (by omega))
        clear HR1 HR2 HR3 HR4 HE HF HX HX1 HX2 HX3
        go_wp2
        go_ret
        exact ⟨_, rfl, .inl ⟨by rw [hX.out, h4.out], rfl⟩, hbw⟩
end Go.Proofs.YtlnehhfljjeifaaDoor

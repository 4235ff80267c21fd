/-
  What is proved here: what decomp.Check answers, where slices.Sort does what it says. · slices.Sort at one rune; the laws' Same at equal runes; what the laws of layer 4's awake answers. · what the laws of layer 4's awake answers.
-/
import Derived.Test.YtojpkkbagcahdaaDoorB2
namespace Go.Proofs.YtojpkkbagcahdaaDoor
open Go.RowKit

theorem orE_assoc (a b c : Nat × Nat) : orE (orE a b) c = orE a (orE b c) := by
  unfold orE
  by_cases h : a.2 = 0
  · simp [h]
  · simp [h]
theorem Says.nil {w : World} {v : Value} {B : Nat} {p : Nat → Addr} {x : Nat × Nat} (h : Says w v B p x) : (x = (0, 0) ∧ v = .nilIface) ∨ (x.2 ≠ 0 ∧ Flt w v B x.1 (p x.2)) := h
set_option maxRecDepth 20000 in
set_option maxHeartbeats 8000000 in
theorem check4_any (a : Option Addr) (cap : Nat) (vc ve : Value) (t : Nm) (hcap : t.rows.length ≤ cap) (w : World) (p : Nat → Addr) (hg : Gl p w) (hR : Rows4 w (.slice a t.rows.length cap) t.rows) (hC : Tab w vc t.cls) (hE : Runes w ve t.exc) (hlc : t.cls.length ≤ 2147483648) (hle : t.exc.length ≤ 2147483648) (hlr : t.rows.length ≤ 2147483648) (hto : ∀ i, i < t.rows.length → (rw_ t.rows i).to.length ≤ 2147483648) (hs : t.rows.length ≤ 2000 → ∀ B, SortsAt t.rows.length B) :
    Calls Tryd.prog 11 #[.agg #[.slice a t.rows.length cap, vc, ve]] w fun e w' => ∃ fv, e = .returned fv ∧ Says w' fv w.heap.size p (chk4 t) ∧ Below w.heap.size w w' := by
  obtain ⟨ca, ccap, rfl, -⟩ := id hC
  obtain ⟨ea, ecap, rfl, -⟩ := id hE
  obtain ⟨W0, hW0⟩ : ∃ W0, w.alloc (.cells #[.slice a t.rows.length cap, .slice ca t.cls.length ccap, .slice ea t.exc.length ecap] 26) = W0 := ⟨_, rfl⟩
  have hsz0 : W0.heap.size = w.heap.size + 1 := by rw [← hW0, World.size_alloc]
  have hb0 : Below w.heap.size w W0 := by rw [← hW0]; exact (Below.refl _ w).alloc (Nat.le_refl _) _
  have e0 : W0.cell? ⟨w.heap.size, 0, none⟩ = some (.slice a t.rows.length cap) := by rw [← hW0, World.cell?_alloc_new]; rfl
  have e1 : W0.cell? ⟨w.heap.size, 1, none⟩ = some (.slice ca t.cls.length ccap) := by rw [← hW0, World.cell?_alloc_new]; rfl
  have e2 : W0.cell? ⟨w.heap.size, 2, none⟩ = some (.slice ea t.exc.length ecap) := by rw [← hW0, World.cell?_alloc_new]; rfl
  have g18 := (hg.below hb0).g18
  by_cases hbig : 2000 < t.rows.length ∨ 2000 < t.exc.length
  · have hsay : Hid (chk4 t = (0, 18)) := by
      show _ = _
      unfold chk4; rw [if_pos hbig]
    clear hR hC hE hs hto hg
    by_cases h1 : 2000 < t.rows.length
    · have d1 : decide ((2000 : Int) < (t.rows.length : Int)) = true := by simp; omega
      clear hbig h1
      go_enter Tryd.func11, Tryd.ntmps11
      go_wp2
      go_ret
      refine ⟨_, rfl, ?_, hb0.alloc hb0.size _⟩
      rw [hsay.out]
      have fl := flt_new (W := W0) hb0.size 0 (p 18)
      rw [hsz0] at fl
      exact .inr ⟨by simp, fl⟩
    · have d1 : decide ((2000 : Int) < (t.rows.length : Int)) = false := by simp; omega
      have d2 : decide ((2000 : Int) < (t.exc.length : Int)) = true := by simp; omega
      clear hbig h1
      go_enter Tryd.func11, Tryd.ntmps11
      go_wp2
      go_ret
      refine ⟨_, rfl, ?_, hb0.alloc hb0.size _⟩
      rw [hsay.out]
      have fl := flt_new (W := W0) hb0.size 0 (p 18)
      rw [hsz0] at fl
      exact .inr ⟨by simp, fl⟩
  · have hl1 : t.rows.length ≤ 2000 := by omega
    have d1 : decide ((2000 : Int) < (t.rows.length : Int)) = false := by simp; omega
    have d2 : decide ((2000 : Int) < (t.exc.length : Int)) = false := by simp; omega
    have hchk : Hid (chk4 t = orE (ff (rowCode t.rows) t.rows.length) (orE (orE (chk t.cls) (ff (clsCode t.cls) t.cls.length)) (orE (ff (excCode t.exc) t.exc.length) (ff (thereCode t) t.rows.length)))) := by
      show _ = _
      unfold chk4; rw [if_neg hbig, orE_assoc]
    have HR1 : Hid (∀ W, Below w.heap.size w W → _) := fun W hb => checkRows_any a cap (.slice ca t.cls.length ccap) (.slice ea t.exc.length ecap) t.rows hcap W p (hg.below hb) (hR.below hb) hl1 hto (hs hl1 _)
    have HR2 : Hid (∀ W, Below w.heap.size w W → _) := fun W hb => checkClasses_any (.slice a t.rows.length cap) (.slice ca t.cls.length ccap) (.slice ea t.exc.length ecap) t.cls W p (hg.below hb) (hC.below hb) hlc
    have HR3 : Hid (∀ W, Below w.heap.size w W → _) := fun W hb => checkExcluded_any (.slice a t.rows.length cap) (.slice ca t.cls.length ccap) (.slice ea t.exc.length ecap) t.exc W p (hg.below hb) (hE.below hb) hle
    have HR4 : Hid (∀ W, Below w.heap.size w W → (ff (rowCode t.rows) t.rows.length).2 = 0 → (orE (chk t.cls) (ff (clsCode t.cls) t.cls.length)).2 = 0 → (ff (excCode t.exc) t.exc.length).2 = 0 → _) := fun W hb h1 h2 h3 => by
      obtain ⟨h21, -⟩ := orE_zero h2
      obtain ⟨-, -, hap, hri⟩ := right_parts h21
      exact checkTwice_any (.slice a t.rows.length cap) (.slice ca t.cls.length ccap) (.slice ea t.exc.length ecap) t W p (hg.below hb) (hR.below hb) (hC.below hb) (hE.below hb) hl1 hlc hle hri hap (exc_rise (ff_zero _ _ h3)) (ff_zero _ _ h1)
    have f1 : ∀ args w, (callFunc 28 args).run Tryd.prog w = .ok (.enter 28 args) w := enters_of Tryd.func28 (by kernel_rfl) rfl
    have f2 : ∀ args w, (callFunc 29 args).run Tryd.prog w = .ok (.enter 29 args) w := enters_of Tryd.func29 (by kernel_rfl) rfl
    have f3 : ∀ args w, (callFunc 30 args).run Tryd.prog w = .ok (.enter 30 args) w := enters_of Tryd.func30 (by kernel_rfl) rfl
    have f4 : ∀ args w, (callFunc 31 args).run Tryd.prog w = .ok (.enter 31 args) w := enters_of Tryd.func31 (by kernel_rfl) rfl
    generalize ff (rowCode t.rows) t.rows.length = x1 at *
    generalize orE (chk t.cls) (ff (clsCode t.cls) t.cls.length) = x2 at *
    generalize ff (excCode t.exc) t.exc.length = x3 at *
    generalize ff (thereCode t) t.rows.length = x4 at *
    obtain ⟨W1, hW1⟩ : ∃ W1, W0.alloc (.cells #[.func (.func 28) #[] #[], .func (.func 29) #[] #[], .func (.func 30) #[] #[], .func (.func 31) #[] #[]] 34) = W1 := ⟨_, rfl⟩
    have hsz1 : W1.heap.size = w.heap.size + 2 := by rw [← hW1, World.size_alloc, hsz0]
    have hb1 : Below W0.heap.size W0 W1 := by rw [← hW1]; exact (Below.refl _ _).alloc (Nat.le_refl _) _
    have cf : ∀ j, W1.cell? ⟨w.heap.size + 1, j, none⟩ = (#[Value.func (.func 28) #[] #[], .func (.func 29) #[] #[], .func (.func 30) #[] #[], .func (.func 31) #[] #[]] : Array Value)[j]? := fun j => by rw [← hW1, ← hsz0, World.cell?_alloc_new]
    have HE : Hid (∀ W, Below (w.heap.size + 2) W1 W → (W.cell? ⟨w.heap.size, 0, none⟩ = some (.slice a t.rows.length cap) ∧ W.cell? ⟨w.heap.size, 1, none⟩ = some (.slice ca t.cls.length ccap) ∧ W.cell? ⟨w.heap.size, 2, none⟩ = some (.slice ea t.exc.length ecap)) ∧ Below w.heap.size w W) := fun W hb => by
      have q : ∀ j v, W0.cell? ⟨w.heap.size, j, none⟩ = some v → W.cell? ⟨w.heap.size, j, none⟩ = some v := fun j v h => by
        rw [hb.cell (p := ⟨w.heap.size, j, none⟩) (by show w.heap.size < _; omega), hb1.cell (p := ⟨w.heap.size, j, none⟩) (by show w.heap.size < _; omega)]; exact h
      exact ⟨⟨q 0 _ e0, q 1 _ e1, q 2 _ e2⟩, hb0.trans ((hb1.mono hb0.size).trans (hb.mono (by omega)))⟩
    have HF : Hid (∀ W, Below (w.heap.size + 2) W1 W → ∀ j, W.cell? ⟨w.heap.size + 1, j, none⟩ = (#[Value.func (.func 28) #[] #[], .func (.func 29) #[] #[], .func (.func 30) #[] #[], .func (.func 31) #[] #[]] : Array Value)[j]?) := fun W hb j => (hb.cell (p := ⟨w.heap.size + 1, j, none⟩) (by show w.heap.size + 1 < _; omega)).trans (cf j)
    have HX : Hid (x1 = (0, 0) → x2 = (0, 0) → x3 = (0, 0) → chk4 t = x4) := fun h1 h2 h3 => by rw [hchk.out, h1, h2, h3]; rfl
    have HX3 : Hid (x1 = (0, 0) → x2 = (0, 0) → x3.2 ≠ 0 → chk4 t = x3) := fun h1 h2 h3 => by rw [hchk.out, h1, h2]; show orE x3 x4 = x3; exact orE_l h3
    have HX2 : Hid (x1 = (0, 0) → x2.2 ≠ 0 → chk4 t = x2) := fun h1 h2 => by rw [hchk.out, h1]; show orE x2 _ = x2; exact orE_l h2
    have HX1 : Hid (x1.2 ≠ 0 → chk4 t = x1) := fun h1 => by rw [hchk.out]; exact orE_l h1
    clear hR hC hE hs hto hg hchk g18 hbig hb0 cf hb1
    go_enter Tryd.func11, Tryd.ntmps11
    go_wp2
    go_loopw [22] (fun y wr => ∃ k : Nat, y = .int .i64 k ∧ k ≤ 4 ∧ Hid ((0 < k → x1 = (0, 0)) ∧ (1 < k → x2 = (0, 0)) ∧ (2 < k → x3 = (0, 0)) ∧ (3 < k → x4 = (0, 0))) ∧ Below (w.heap.size + 2) W1 wr) (fun y _ => 4 - (intOf y).toNat)
    case atStart => exact ⟨0, rfl, by omega, ⟨by omega, by omega, by omega, by omega⟩, Below.refl _ _⟩
    case round =>
      obtain ⟨k, rfl, hk, hm, hb⟩ := hrel
      obtain ⟨⟨k0, k1, k2⟩, hbw⟩ := HE.out wr hb
      have hszr : w.heap.size + 2 ≤ wr.heap.size := by have := hb.size; omega
      clear e0 e1 e2
      rcases (by omega : k = 0 ∨ k = 1 ∨ k = 2 ∨ k = 3 ∨ k = 4) with rfl | rfl | rfl | rfl | rfl
      · have c := HF.out wr hb 0
        simp only [List.getElem?_toArray, List.getElem?_cons_zero] at c
        have HC := Hid.mk' (HR1.out wr hbw)
        go_wp2_with fail
        refine HC.out.mono ?_
        rintro e w1 ⟨fv, rfl, hsay, hb1⟩
        have hbw1 := hbw.trans (hb1.mono hbw.size)
        rcases hsay.nil with ⟨hz, rfl⟩ | ⟨hnz, hf⟩
        · have hm' : Hid ((0 < 1 → x1 = (0, 0)) ∧ (1 < 1 → x2 = (0, 0)) ∧ (2 < 1 → x3 = (0, 0)) ∧ (3 < 1 → x4 = (0, 0))) := ⟨fun _ => hz, by omega, by omega, by omega⟩
          clear hsay hz
          go_wp2
          go_roundw
          case rel => exact ⟨1, rfl, by omega, hm', hb.trans (hb1.mono hszr)⟩
          case measure => simp [intOf]
        · have hX := Hid.mk' (HX1.out hnz)
          have HFL := Hid.mk' hf
          have HNZ := Hid.mk' hnz
          obtain ⟨fb, -, rfl, -, -⟩ := hf
          clear hsay hnz
          go_wp2
          go_ret
          exact ⟨_, rfl, by rw [hX.out]; exact .inr ⟨HNZ.out, HFL.out.weaken hbw.size rfl⟩, hbw1⟩
      · have c := HF.out wr hb 1
        simp only [List.getElem?_toArray, List.getElem?_cons_succ, List.getElem?_cons_zero] at c
        have HC := Hid.mk' (HR2.out wr hbw)
        go_wp2_with fail
        refine HC.out.mono ?_
        rintro e w1 ⟨fv, rfl, hsay, hb1⟩
        have hbw1 := hbw.trans (hb1.mono hbw.size)
        rcases hsay.nil with ⟨hz, rfl⟩ | ⟨hnz, hf⟩
        · have hm' : Hid ((0 < 2 → x1 = (0, 0)) ∧ (1 < 2 → x2 = (0, 0)) ∧ (2 < 2 → x3 = (0, 0)) ∧ (3 < 2 → x4 = (0, 0))) := ⟨fun _ => hm.out.1 (by omega), fun _ => hz, by omega, by omega⟩
          clear hsay hz
          go_wp2
          go_roundw
          case rel => exact ⟨2, rfl, by omega, hm', hb.trans (hb1.mono hszr)⟩
          case measure => simp [intOf]
        · have hX := Hid.mk' (HX2.out (hm.out.1 (by omega)) hnz)
          have HFL := Hid.mk' hf
          have HNZ := Hid.mk' hnz
          obtain ⟨fb, -, rfl, -, -⟩ := hf
          clear hsay hnz
          go_wp2
          go_ret
          exact ⟨_, rfl, by rw [hX.out]; exact .inr ⟨HNZ.out, HFL.out.weaken hbw.size rfl⟩, hbw1⟩
      · have c := HF.out wr hb 2
        simp only [List.getElem?_toArray, List.getElem?_cons_succ, List.getElem?_cons_zero] at c
        have HC := Hid.mk' (HR3.out wr hbw)
        go_wp2_with fail
        refine HC.out.mono ?_
        rintro e w1 ⟨fv, rfl, hsay, hb1⟩
        have hbw1 := hbw.trans (hb1.mono hbw.size)
        rcases hsay.nil with ⟨hz, rfl⟩ | ⟨hnz, hf⟩
        · have hm' : Hid ((0 < 3 → x1 = (0, 0)) ∧ (1 < 3 → x2 = (0, 0)) ∧ (2 < 3 → x3 = (0, 0)) ∧ (3 < 3 → x4 = (0, 0))) := ⟨fun _ => hm.out.1 (by omega), fun _ => hm.out.2.1 (by omega), fun _ => hz, by omega⟩
          clear hsay hz
          go_wp2
          go_roundw
          case rel => exact ⟨3, rfl, by omega, hm', hb.trans (hb1.mono hszr)⟩
          case measure => simp [intOf]
        · have hX := Hid.mk' (HX3.out (hm.out.1 (by omega)) (hm.out.2.1 (by omega)) hnz)
          have HFL := Hid.mk' hf
          have HNZ := Hid.mk' hnz
          obtain ⟨fb, -, rfl, -, -⟩ := hf
          clear hsay hnz
          go_wp2
          go_ret
          exact ⟨_, rfl, by rw [hX.out]; exact .inr ⟨HNZ.out, HFL.out.weaken hbw.size rfl⟩, hbw1⟩
      · have c := HF.out wr hb 3
        simp only [List.getElem?_toArray, List.getElem?_cons_succ, List.getElem?_cons_zero] at c
        have HC := Hid.mk' (HR4.out wr hbw (by rw [hm.out.1 (by omega)]) (by rw [hm.out.2.1 (by omega)]) (by rw [hm.out.2.2.1 (by omega)]))
        go_wp2_with fail
        refine HC.out.mono ?_
        rintro e w1 ⟨fv, rfl, hsay, hb1⟩
        have hbw1 := hbw.trans (hb1.mono hbw.size)
        rcases hsay.nil with ⟨hz, rfl⟩ | ⟨hnz, hf⟩
        · have hm' : Hid ((0 < 4 → x1 = (0, 0)) ∧ (1 < 4 → x2 = (0, 0)) ∧ (2 < 4 → x3 = (0, 0)) ∧ (3 < 4 → x4 = (0, 0))) := ⟨fun _ => hm.out.1 (by omega), fun _ => hm.out.2.1 (by omega), fun _ => hm.out.2.2.1 (by omega), fun _ => hz⟩
          clear hsay hz
          go_wp2
          go_roundw
          case rel => exact ⟨4, rfl, by omega, hm', hb.trans (hb1.mono hszr)⟩
          case measure => simp [intOf]
        · have hX := Hid.mk' (HX.out (hm.out.1 (by omega)) (hm.out.2.1 (by omega)) (hm.out.2.2.1 (by omega)))
          have HFL := Hid.mk' hf
          have HNZ := Hid.mk' hnz
          obtain ⟨fb, -, rfl, -, -⟩ := hf
          clear hsay hnz
          go_wp2
          go_ret
          exact ⟨_, rfl, by rw [hX.out]; exact .inr ⟨HNZ.out, HFL.out.weaken hbw.size rfl⟩, hbw1⟩
      · have hX := Hid.mk' (HX.out (hm.out.1 (by omega)) (hm.out.2.1 (by omega)) (hm.out.2.2.1 (by omega)))
        have h4 := Hid.mk' (hm.out.2.2.2 (by omega))
        clear HR1 HR2 HR3 HR4 HE HF HX HX1 HX2 HX3
        go_wp2
        go_ret
        exact ⟨_, rfl, .inl ⟨by rw [hX.out, h4.out], rfl⟩, hbw⟩
end Go.Proofs.YtojpkkbagcahdaaDoor
namespace Go.Proofs.YtojpkkbagcahdaaDoor
open Go.RowKit

set_option maxRecDepth 20000 in
set_option maxHeartbeats 1000000 in
theorem len64_one (w : World) : Calls Tryd.prog 93 #[.int .u64 1] w fun e w' => (∃ l : Int, e = .returned (.int .i64 l)) ∧ w = w' := by
  go_enter Tryd.func93, Tryd.ntmps93
  go_wp2
  go_ret
  exact ⟨⟨_, rfl⟩, rfl⟩
set_option maxRecDepth 20000 in
set_option maxHeartbeats 1000000 in
theorem len_one (w : World) : Calls Tryd.prog 72 #[.int .u64 1] w fun e w' => (∃ l : Int, e = .returned (.int .i64 l)) ∧ w = w' := by
  go_enter Tryd.func72, Tryd.ntmps72
  go_wp2_with fail
  refine (len64_one w).mono ?_
  rintro e w' ⟨⟨l, rfl⟩, rfl⟩
  go_wp2
  go_ret
  exact ⟨⟨_, rfl⟩, rfl⟩
set_option maxHeartbeats 1000000 in
theorem insertion_one (a : Option Addr) (cap : Nat) (w : World) : Calls Tryd.prog 83 #[.slice a 1 cap, .int .i64 0, .int .i64 1] w fun e w' => e = .returned (.tuple #[]) ∧ w = w' := by
  go_enter Tryd.func83, Tryd.ntmps83
  go_wp2
  refine wp_loop_rounds 1 ?_
  rw [rounds_succ]
  go_wp2
  go_end0
  exact ⟨rfl, rfl⟩
set_option maxRecDepth 20000 in
set_option maxHeartbeats 1000000 in
theorem pdq_one (a : Option Addr) (cap : Nat) (l : Int) (w : World) : Calls Tryd.prog 71 #[.slice a 1 cap, .int .i64 0, .int .i64 1, .int .i64 l] w fun e w' => e = .returned (.tuple #[]) ∧ w = w' := by
  have HI := Hid.mk' (insertion_one a cap w)
  go_enter Tryd.func71, Tryd.ntmps71
  go_wp2
  refine wp_loop_rounds 1 ?_
  rw [rounds_succ]
  go_wp2_with (go_at_call 83; refine HI.out.mono ?_; rintro e w' ⟨rfl, rfl⟩)
  (try simp only [Exit.inBlock, Exit.then]); refine bodyPost_ret (results_none rfl _ _ _) rfl ?_
  exact ⟨rfl, rfl⟩
set_option maxRecDepth 20000 in
set_option maxHeartbeats 1000000 in
theorem sort_one (B : Nat) : SortsAt 1 B := by
  intro W v rs hl ho
  obtain ⟨a, c, rfl⟩ := own_slice ho
  rw [hl] at ho ⊢
  have HL := Hid.mk' (len_one W)
  have HP := Hid.mk' (fun l => pdq_one a c l W)
  have HO := Hid.mk' ho
  clear ho
  go_enter Tryd.func50, Tryd.ntmps50
  go_wp2_with fail
  refine HL.out.mono ?_
  rintro e w' ⟨⟨l, rfl⟩, rfl⟩
  go_wp2_with fail
  refine (HP.out l).mono ?_
  rintro e w' ⟨rfl, rfl⟩
  go_wp2
  go_end0
  refine ⟨rfl, rs, List.Perm.refl _, fun i j hij hj => ?_, HO.out, fun w0 h => h⟩
  obtain rfl : i = 0 := by omega
  obtain rfl : j = 0 := by omega
  exact Int.le_refl _
set_option maxHeartbeats 1000000 in
theorem same_any (va vb : Value) (rs : List Int) (w : World) (hl : rs.length ≤ 268435456) (ha : Runes w va rs) (hb : Runes w vb rs) :
    Calls Tryd.prog 14 #[va, vb] w fun e w' => e = .returned (.bool true) ∧ Below w.heap.size w w' := by
  obtain ⟨a, ca, rfl, ha⟩ := ha
  obtain ⟨b, cb, rfl, hb⟩ := hb
  have HA := Hid.mk' ha
  have HB := Hid.mk' hb
  clear ha hb
  go_enter Tryd.func14, Tryd.ntmps14
  go_wp2
  go_loopw [5] (fun i wr => ∃ k : Nat, k ≤ rs.length ∧ i = .int .i64 k ∧ Below w.heap.size w wr) (fun i _ => rs.length - (intOf i).toNat)
  case atStart => exact ⟨0, Nat.zero_le _, rfl, Below.refl _ _⟩
  case round =>
    obtain ⟨k, hk, rfl, hbel⟩ := hrel
    by_cases hlt : k < rs.length
    · obtain ⟨ba, oa, rfl, ca0⟩ := HA.out k hlt
      obtain ⟨bb, ob, rfl, cb0⟩ := HB.out k hlt
      have hca := (hbel.cell (p := ⟨ba, oa + k, none⟩) (lt_of_cell ca0)).trans ca0
      have hcb := (hbel.cell (p := ⟨bb, ob + k, none⟩) (lt_of_cell cb0)).trans cb0
      clear ca0 cb0
      generalize rs.getD k 0 = r at hca hcb
      go_wp2
      go_region
      go_wp2
      go_roundw
      case rel => exact ⟨k + 1, by omega, by go_num, hbel.drew⟩
      case measure => simp [intOf]; omega
    · go_wp2
      go_ret
      exact ⟨rfl, hbel⟩
def exNorm : Nm := ⟨[⟨233, [101, 769]⟩], [⟨769, 769, 230⟩], []⟩
theorem exNorm_chk : chk4 exNorm = (0, 0) := by decide
theorem exNorm_one : oneM exNorm.rows 233 = [101, 769] := by decide
theorem exNorm_syl : oneM exNorm.rows 44033 = [4352, 4449, 4520] := by decide
end Go.Proofs.YtojpkkbagcahdaaDoor
namespace Go.Proofs.YtojpkkbagcahdaaDoor
open Go.RowKit

/-- runes of new memory -/
theorem runes_new (w : World) (rs : List Int) : Runes (w.alloc (.cells (rs.map (Value.int .i32)).toArray 21)) (.slice (some ⟨w.heap.size, 0, none⟩) rs.length rs.length) rs := by
  refine ⟨_, _, rfl, fun j hj => ⟨w.heap.size, 0, rfl, ?_⟩⟩
  rw [Nat.zero_add, World.cell?_alloc_new]
  simp [List.getElem?_eq_getElem hj]
theorem runes_nil (w : World) : Runes w (.slice none 0 0) [] := ⟨none, 0, rfl, fun j hj => by simp at hj⟩
set_option maxRecDepth 20000 in
set_option maxHeartbeats 4000000 in
theorem awake4_any (w : World) (p : Nat → Addr) (hg : Gl p w) :
    Calls Tryd.prog 7 #[] w fun e w' => e = .returned (.bool true) ∧ Below w.heap.size w w' := by
  obtain ⟨W1, hW1⟩ : ∃ W1, w.alloc (.cells #[.int .i32 101, .int .i32 769] 21) = W1 := ⟨_, rfl⟩
  have z1 : W1.heap.size = w.heap.size + 1 := by rw [← hW1, World.size_alloc]
  have R1 : Runes W1 (.slice (some ⟨w.heap.size, 0, none⟩) 2 2) [101, 769] := by rw [← hW1]; exact runes_new w [101, 769]
  have b1 : Below w.heap.size w W1 := by rw [← hW1]; exact (Below.refl _ _).alloc (Nat.le_refl _) _
  obtain ⟨W2, hW2⟩ : ∃ W2, W1.alloc (.cells #[.int .i32 233, .slice (some ⟨w.heap.size, 0, none⟩) 2 2] 40) = W2 := ⟨_, rfl⟩
  have z2 : W2.heap.size = w.heap.size + 2 := by rw [← hW2, World.size_alloc, z1]
  have b2 : Below W1.heap.size W1 W2 := by rw [← hW2]; exact (Below.refl _ _).alloc (Nat.le_refl _) _
  have R2 : Rows4 W2 (.slice (some ⟨w.heap.size + 1, 0, none⟩) 1 1) exNorm.rows := by
    refine ⟨_, _, rfl, fun j hj => ?_⟩
    obtain rfl : j = 0 := by simp [exNorm] at hj; omega
    refine ⟨w.heap.size + 1, 0, .slice (some ⟨w.heap.size, 0, none⟩) 2 2, rfl, ?_, ?_, R1.below b2⟩
    · rw [← hW2, ← z1, World.cell?_alloc_new]; rfl
    · rw [← hW2, ← z1, World.cell?_alloc_new]; rfl
  obtain ⟨W3, hW3⟩ : ∃ W3, W2.alloc (.cells #[.int .i32 769, .int .i32 769, .int .i64 230] 42) = W3 := ⟨_, rfl⟩
  have z3 : W3.heap.size = w.heap.size + 3 := by rw [← hW3, World.size_alloc, z2]
  have b3 : Below W2.heap.size W2 W3 := by rw [← hW3]; exact (Below.refl _ _).alloc (Nat.le_refl _) _
  have R3 : Tab W3 (.slice (some ⟨w.heap.size + 2, 0, none⟩) 1 1) exNorm.cls := by
    refine ⟨_, _, rfl, fun j hj => ⟨w.heap.size + 2, 0, rfl, fun i hi => ?_⟩⟩
    obtain rfl : j = 0 := by simp [exNorm] at hj; omega
    rw [Nat.zero_mul, Nat.add_zero, Nat.zero_add, ← hW3, ← z2, World.cell?_alloc_new]
    simp [Rg.cells, exNorm]
  obtain ⟨W4, hW4⟩ : ∃ W4, W3.alloc (.cells #[.slice (some ⟨w.heap.size + 1, 0, none⟩) 1 1, .slice (some ⟨w.heap.size + 2, 0, none⟩) 1 1, .slice none 0 0] 26) = W4 := ⟨_, rfl⟩
  have z4 : W4.heap.size = w.heap.size + 4 := by rw [← hW4, World.size_alloc, z3]
  have b4 : Below W3.heap.size W3 W4 := by rw [← hW4]; exact (Below.refl _ _).alloc (Nat.le_refl _) _
  have b04 : Below w.heap.size w W4 := b1.trans ((b2.trans ((b3.trans (b4.mono (by omega))).mono (by omega))).mono (by omega))
  have b24 : Below W2.heap.size W2 W4 := b3.trans (b4.mono (by omega))
  have e0 : W4.cell? ⟨w.heap.size + 3, 0, none⟩ = some (.slice (some ⟨w.heap.size + 1, 0, none⟩) 1 1) := by rw [← hW4, ← z3, World.cell?_alloc_new]; rfl
  have e1 : W4.cell? ⟨w.heap.size + 3, 1, none⟩ = some (.slice (some ⟨w.heap.size + 2, 0, none⟩) 1 1) := by rw [← hW4, ← z3, World.cell?_alloc_new]; rfl
  have e2 : W4.cell? ⟨w.heap.size + 3, 2, none⟩ = some (.slice none 0 0) := by rw [← hW4, ← z3, World.cell?_alloc_new]; rfl
  have HR : Hid (∀ W, Below W4.heap.size W4 W → Rows4 W (.slice (some ⟨w.heap.size + 1, 0, none⟩) 1 1) exNorm.rows) := fun W hb => (R2.below b24).below hb
  have HG : Hid (∀ W, Below W4.heap.size W4 W → Gl p W) := fun W hb => (hg.below b04).below hb
  have HE : Hid (∀ W, Below W4.heap.size W4 W → W.cell? ⟨w.heap.size + 3, 0, none⟩ = some (.slice (some ⟨w.heap.size + 1, 0, none⟩) 1 1) ∧ W.cell? ⟨w.heap.size + 3, 1, none⟩ = some (.slice (some ⟨w.heap.size + 2, 0, none⟩) 1 1) ∧ W.cell? ⟨w.heap.size + 3, 2, none⟩ = some (.slice none 0 0)) := fun W hb => ⟨(hb.cell (lt_of_cell e0)).trans e0, (hb.cell (lt_of_cell e1)).trans e1, (hb.cell (lt_of_cell e2)).trans e2⟩
  have hrc : ∀ i, i < exNorm.rows.length → rowCode exNorm.rows i = 0 := (right4 (by rw [exNorm_chk])).row
  have HCk : Hid (Calls Tryd.prog 11 #[.agg #[.slice (some ⟨w.heap.size + 1, 0, none⟩) 1 1, .slice (some ⟨w.heap.size + 2, 0, none⟩) 1 1, .slice none 0 0]] W4 fun e w' => e = .returned .nilIface ∧ Below W4.heap.size W4 w') := by
    refine (check4_any (some ⟨w.heap.size + 1, 0, none⟩) 1 (.slice (some ⟨w.heap.size + 2, 0, none⟩) 1 1) (.slice none 0 0) exNorm (by decide) W4 p (hg.below b04) (R2.below b24) (R3.below b4) (runes_nil _) (by decide) (by decide) (by decide) (fun i hi => ?_) (fun _ B => sort_one B)).mono ?_
    · obtain rfl : i = 0 := by simp [exNorm] at hi; omega
      decide
    · rintro e w' ⟨fv, rfl, hs, hb⟩
      rw [exNorm_chk] at hs
      rcases hs with ⟨-, rfl⟩ | ⟨h, -⟩
      · exact ⟨rfl, hb⟩
      · simp at h
  have HO1 : Hid (∀ W, Below W4.heap.size W4 W → Calls Tryd.prog 19 #[.agg #[.slice (some ⟨w.heap.size + 1, 0, none⟩) 1 1, .slice (some ⟨w.heap.size + 2, 0, none⟩) 1 1, .slice none 0 0], .int .i32 233] W fun e w' => ∃ v, e = .returned v ∧ Runes w' v [101, 769] ∧ Below W.heap.size W w') := fun W hb => by
    refine (one_any (some ⟨w.heap.size + 1, 0, none⟩) 1 _ _ exNorm.rows (by decide) 233 W (HG.out W hb).hg (HR.out W hb) (by decide) hrc).mono ?_
    rintro e w' ⟨v, rfl, ho, hb'⟩
    rw [exNorm_one] at ho
    exact ⟨v, rfl, Runes.own ho, hb'⟩
  have HO2 : Hid (∀ W, Below W4.heap.size W4 W → Calls Tryd.prog 19 #[.agg #[.slice (some ⟨w.heap.size + 1, 0, none⟩) 1 1, .slice (some ⟨w.heap.size + 2, 0, none⟩) 1 1, .slice none 0 0], .int .i32 44033] W fun e w' => ∃ v, e = .returned v ∧ Runes w' v [4352, 4449, 4520] ∧ Below W.heap.size W w') := fun W hb => by
    refine (one_any (some ⟨w.heap.size + 1, 0, none⟩) 1 _ _ exNorm.rows (by decide) 44033 W (HG.out W hb).hg (HR.out W hb) (by decide) hrc).mono ?_
    rintro e w' ⟨v, rfl, ho, hb'⟩
    rw [exNorm_syl] at ho
    exact ⟨v, rfl, Runes.own ho, hb'⟩
  have HS : Hid (∀ W v rs, Runes W v rs → rs.length ≤ 268435456 → Calls Tryd.prog 14 #[v, .slice (some ⟨W.heap.size, 0, none⟩) rs.length rs.length] (W.alloc (.cells (rs.map (Value.int .i32)).toArray 21)) fun e w' => e = .returned (.bool true) ∧ Below W.heap.size W w') := fun W v rs hv hl => by
    refine (same_any v _ rs (W.alloc (.cells (rs.map (Value.int .i32)).toArray 21)) hl (hv.below ((Below.refl _ _).alloc (Nat.le_refl _) _)) (runes_new W rs)).mono ?_
    rintro e w' ⟨rfl, hb⟩
    exact ⟨rfl, ((Below.refl _ _).alloc (Nat.le_refl _) _).trans (hb.mono (by simp))⟩
  have HB04 := Hid.mk' b04
  have Hsz : Hid (w.heap.size ≤ W4.heap.size) := by show _ ≤ _; omega
  have HW4 := Hid.mk' hW4
  clear hg R1 R2 R3 b1 b2 b3 b4 b04 b24 HR HG hrc hW4 e0 e1 e2
  go_enter Tryd.func7, Tryd.ntmps7
  go_wp2_with fail
  rw [HW4.out]
  refine HCk.out.mono ?_
  rintro e w5 ⟨rfl, hb5⟩
  obtain ⟨p0, p1, p2⟩ := HE.out w5 hb5
  go_wp2_with fail
  refine (HO1.out w5 hb5).mono ?_
  rintro e w6 ⟨v6, rfl, r6, hb6⟩
  have hb46 := hb5.trans (hb6.mono hb5.size)
  have HS6 := Hid.mk' (HS.out w6 v6 [101, 769] r6 (by decide))
  obtain ⟨va, vc, rfl, -⟩ := r6
  clear p0 p1 p2
  go_wp2_with fail
  refine HS6.out.mono ?_
  rintro e w7 ⟨rfl, hb7⟩
  have hb47 := hb46.trans (hb7.mono hb46.size)
  obtain ⟨p0, p1, p2⟩ := HE.out w7 hb47
  go_wp2_with fail
  refine (HO2.out w7 hb47).mono ?_
  rintro e w8 ⟨v8, rfl, r8, hb8⟩
  have hb48 := hb47.trans (hb8.mono hb47.size)
  have HS8 := Hid.mk' (HS.out w8 v8 [4352, 4449, 4520] r8 (by decide))
  obtain ⟨vb, vd, rfl, -⟩ := r8
  clear p0 p1 p2
  go_wp2_with fail
  refine HS8.out.mono ?_
  rintro e w9 ⟨rfl, hb9⟩
  have hb49 := hb48.trans (hb9.mono hb48.size)
  go_wp2
  go_ret
  exact ⟨rfl, HB04.out.trans (hb49.mono Hsz.out)⟩
end Go.Proofs.YtojpkkbagcahdaaDoor

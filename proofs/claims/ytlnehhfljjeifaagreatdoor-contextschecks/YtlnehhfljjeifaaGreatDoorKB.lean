/-
  What is proved here: what decomp.Check answers, where slices.Sort does what it says. · slices.Sort at one rune; the laws' Same at equal runes; what the laws of layer 4's awake answers. · what the laws of layer 4's awake answers.
-/
import Derived.Test.YtlnehhfljjeifaaGreatDoorB2
namespace Go.Proofs.YtlnehhfljjeifaaGreatDoor
open Go.RowKit

theorem orE_assoc (a b c : Nat × Nat) : orE (orE a b) c = orE a (orE b c) := by
  unfold orE
  by_cases h : a.2 = 0
  · simp [h]
  · simp [h]
theorem Says.nil {w : World} {v : Value} {B : Nat} {p : Nat → Addr} {x : Nat × Nat} (h : Says w v B p x) : (x = (0, 0) ∧ v = .nilIface) ∨ (x.2 ≠ 0 ∧ Flt w v B x.1 (p x.2)) := h
set_option maxRecDepth 20000 in
set_option maxHeartbeats 8000000 in
theorem check4_any (a : Option Addr) (cap : Nat) (vc ve : Value) (t : Nm) (hcap : t.rows.length ≤ cap) (w : World) (p : Nat → Addr) (hg : Gl p w) (hR : Rows4 w (.slice a t.rows.length cap) t.rows) (hC : Tab w vc t.cls) (hE : Runes w ve t.exc) (hlc : t.cls.length ≤ 2147483648) (hle : t.exc.length ≤ 2147483648) (hlr : t.rows.length ≤ 2147483648) (hto : ∀ i, i < t.rows.length → (rw_ t.rows i).to.length ≤ 2147483648) (hs : t.rows.length ≤ 2000 → ∀ B, SortsAt t.rows.length B) :
    Calls Tryz.prog 39 #[.agg #[.slice a t.rows.length cap, vc, ve]] w fun e w' => ∃ fv, e = .returned fv ∧ Says w' fv w.heap.size p (chk4 t) ∧ Below w.heap.size w w' := by
  obtain ⟨ca, ccap, rfl, -⟩ := id hC
  obtain ⟨ea, ecap, rfl, -⟩ := id hE
  obtain ⟨W0, hW0⟩ : ∃ W0, w.alloc (.cells #[.slice a t.rows.length cap, .slice ca t.cls.length ccap, .slice ea t.exc.length ecap] 39) = W0 := ⟨_, rfl⟩
  have hsz0 : W0.heap.size = w.heap.size + 1 := by rw [← hW0, World.size_alloc]
  have hb0 : Below w.heap.size w W0 := by rw [← hW0]; exact (Below.refl _ w).alloc (Nat.le_refl _) _
  have e0 : W0.cell? ⟨w.heap.size, 0, none⟩ = some (.slice a t.rows.length cap) := by rw [← hW0, World.cell?_alloc_new]; rfl
  have e1 : W0.cell? ⟨w.heap.size, 1, none⟩ = some (.slice ca t.cls.length ccap) := by rw [← hW0, World.cell?_alloc_new]; rfl
  have e2 : W0.cell? ⟨w.heap.size, 2, none⟩ = some (.slice ea t.exc.length ecap) := by rw [← hW0, World.cell?_alloc_new]; rfl
  have g18 := (hg.below hb0).g18
  by_cases hbig : 2000 < t.rows.length ∨ 2000 < t.exc.length
  · have hsay : Hid (chk4 t = (0, 18)) := by
      show _ = _
      unfold chk4; rw [if_pos hbig]
    clear hR hC hE hs hto hg
    by_cases h1 : 2000 < t.rows.length
    · have d1 : decide ((2000 : Int) < (t.rows.length : Int)) = true := by simp; omega
      clear hbig h1
      go_enter Tryz.func39, Tryz.ntmps39
      go_wp2
      go_ret
      refine ⟨_, rfl, ?_, hb0.alloc hb0.size _⟩
      rw [hsay.out]
      have fl := flt_new (W := W0) hb0.size 0 (p 18)
      rw [hsz0] at fl
      exact .inr ⟨by simp, fl⟩
    · have d1 : decide ((2000 : Int) < (t.rows.length : Int)) = false := by simp; omega
      have d2 : decide ((2000 : Int) < (t.exc.length : Int)) = true := by simp; omega
      clear hbig h1
      go_enter Tryz.func39, Tryz.ntmps39
      go_wp2
      go_ret
      refine ⟨_, rfl, ?_, hb0.alloc hb0.size _⟩
      rw [hsay.out]
      have fl := flt_new (W := W0) hb0.size 0 (p 18)
      rw [hsz0] at fl
      exact .inr ⟨by simp, fl⟩
  · have hl1 : t.rows.length ≤ 2000 := by omega
    have d1 : decide ((2000 : Int) < (t.rows.length : Int)) = false := by simp; omega
    have d2 : decide ((2000 : Int) < (t.exc.length : Int)) = false := by simp; omega
    have hchk : Hid (chk4 t = orE (ff (rowCode t.rows) t.rows.length) (orE (orE (chk t.cls) (ff (clsCode t.cls) t.cls.length)) (orE (ff (excCode t.exc) t.exc.length) (ff (thereCode t) t.rows.length)))) := by
      show _ = _
      unfold chk4; rw [if_neg hbig, orE_assoc]
    have HR1 : Hid (∀ W, Below w.heap.size w W → _) := fun W hb => checkRows_any a cap (.slice ca t.cls.length ccap) (.slice ea t.exc.length ecap) t.rows hcap W p (hg.below hb) (hR.below hb) hl1 hto (hs hl1 _)
    have HR2 : Hid (∀ W, Below w.heap.size w W → _) := fun W hb => checkClasses_any (.slice a t.rows.length cap) (.slice ca t.cls.length ccap) (.slice ea t.exc.length ecap) t.cls W p (hg.below hb) (hC.below hb) hlc
    have HR3 : Hid (∀ W, Below w.heap.size w W → _) := fun W hb => checkExcluded_any (.slice a t.rows.length cap) (.slice ca t.cls.length ccap) (.slice ea t.exc.length ecap) t.exc W p (hg.below hb) (hE.below hb) hle
    have HR4 : Hid (∀ W, Below w.heap.size w W → (ff (rowCode t.rows) t.rows.length).2 = 0 → (orE (chk t.cls) (ff (clsCode t.cls) t.cls.length)).2 = 0 → (ff (excCode t.exc) t.exc.length).2 = 0 → _) := fun W hb h1 h2 h3 => by
      obtain ⟨h21, -⟩ := orE_zero h2
      obtain ⟨-, -, hap, hri⟩ := right_parts h21
      exact checkTwice_any (.slice a t.rows.length cap) (.slice ca t.cls.length ccap) (.slice ea t.exc.length ecap) t W p (hg.below hb) (hR.below hb) (hC.below hb) (hE.below hb) hl1 hlc hle hri hap (exc_rise (ff_zero _ _ h3)) (ff_zero _ _ h1)
    have f1 : ∀ args w, (callFunc 71 args).run Tryz.prog w = .ok (.enter 71 args) w := enters_of Tryz.func71 (by kernel_rfl) rfl
    have f2 : ∀ args w, (callFunc 72 args).run Tryz.prog w = .ok (.enter 72 args) w := enters_of Tryz.func72 (by kernel_rfl) rfl
    have f3 : ∀ args w, (callFunc 73 args).run Tryz.prog w = .ok (.enter 73 args) w := enters_of Tryz.func73 (by kernel_rfl) rfl
    have f4 : ∀ args w, (callFunc 74 args).run Tryz.prog w = .ok (.enter 74 args) w := enters_of Tryz.func74 (by kernel_rfl) rfl
    generalize ff (rowCode t.rows) t.rows.length = x1 at *
    generalize orE (chk t.cls) (ff (clsCode t.cls) t.cls.length) = x2 at *
    generalize ff (excCode t.exc) t.exc.length = x3 at *
    generalize ff (thereCode t) t.rows.length = x4 at *
    obtain ⟨W1, hW1⟩ : ∃ W1, W0.alloc (.cells #[.func (.func 71) #[] #[], .func (.func 72) #[] #[], .func (.func 73) #[] #[], .func (.func 74) #[] #[]] 82) = W1 := ⟨_, rfl⟩
    have hsz1 : W1.heap.size = w.heap.size + 2 := by rw [← hW1, World.size_alloc, hsz0]
    have hb1 : Below W0.heap.size W0 W1 := by rw [← hW1]; exact (Below.refl _ _).alloc (Nat.le_refl _) _
    have cf : ∀ j, W1.cell? ⟨w.heap.size + 1, j, none⟩ = (#[Value.func (.func 71) #[] #[], .func (.func 72) #[] #[], .func (.func 73) #[] #[], .func (.func 74) #[] #[]] : Array Value)[j]? := fun j => by rw [← hW1, ← hsz0, World.cell?_alloc_new]
    have HE : Hid (∀ W, Below (w.heap.size + 2) W1 W → (W.cell? ⟨w.heap.size, 0, none⟩ = some (.slice a t.rows.length cap) ∧ W.cell? ⟨w.heap.size, 1, none⟩ = some (.slice ca t.cls.length ccap) ∧ W.cell? ⟨w.heap.size, 2, none⟩ = some (.slice ea t.exc.length ecap)) ∧ Below w.heap.size w W) := fun W hb => by
      have q : ∀ j v, W0.cell? ⟨w.heap.size, j, none⟩ = some v → W.cell? ⟨w.heap.size, j, none⟩ = some v := fun j v h => by
        rw [hb.cell (p := ⟨w.heap.size, j, none⟩) (by show w.heap.size < _; omega), hb1.cell (p := ⟨w.heap.size, j, none⟩) (by show w.heap.size < _; omega)]; exact h
      exact ⟨⟨q 0 _ e0, q 1 _ e1, q 2 _ e2⟩, hb0.trans ((hb1.mono hb0.size).trans (hb.mono (by omega)))⟩
    have HF : Hid (∀ W, Below (w.heap.size + 2) W1 W → ∀ j, W.cell? ⟨w.heap.size + 1, j, none⟩ = (#[Value.func (.func 71) #[] #[], .func (.func 72) #[] #[], .func (.func 73) #[] #[], .func (.func 74) #[] #[]] : Array Value)[j]?) := fun W hb j => (hb.cell (p := ⟨w.heap.size + 1, j, none⟩) (by show w.heap.size + 1 < _; omega)).trans (cf j)
    have HX : Hid (x1 = (0, 0) → x2 = (0, 0) → x3 = (0, 0) → chk4 t = x4) := fun h1 h2 h3 => by rw [hchk.out, h1, h2, h3]; rfl
    have HX3 : Hid (x1 = (0, 0) → x2 = (0, 0) → x3.2 ≠ 0 → chk4 t = x3) := fun h1 h2 h3 => by rw [hchk.out, h1, h2]; show orE x3 x4 = x3; exact orE_l h3
    have HX2 : Hid (x1 = (0, 0) → x2.2 ≠ 0 → chk4 t = x2) := fun h1 h2 => by rw [hchk.out, h1]; show orE x2 _ = x2; exact orE_l h2
    have HX1 : Hid (x1.2 ≠ 0 → chk4 t = x1) := fun h1 => by rw [hchk.out]; exact orE_l h1
    clear hR hC hE hs hto hg hchk g18 hbig hb0 cf hb1
    go_enter Tryz.func39, Tryz.ntmps39
    go_wp2
    go_loopw [22] (fun y wr => ∃ k : Nat, y = .int .i64 k ∧ k ≤ 4 ∧ Hid ((0 < k → x1 = (0, 0)) ∧ (1 < k → x2 = (0, 0)) ∧ (2 < k → x3 = (0, 0)) ∧ (3 < k → x4 = (0, 0))) ∧ Below (w.heap.size + 2) W1 wr) (fun y _ => 4 - (intOf y).toNat)
    case atStart => exact ⟨0, rfl, by omega, ⟨by omega, by omega, by omega, by omega⟩, Below.refl _ _⟩
    case round =>
      obtain ⟨k, rfl, hk, hm, hb⟩ := hrel
      obtain ⟨⟨k0, k1, k2⟩, hbw⟩ := HE.out wr hb
      have hszr : w.heap.size + 2 ≤ wr.heap.size := by have := hb.size; omega
      clear e0 e1 e2
      rcases (by omega : k = 0 ∨ k = 1 ∨ k = 2 ∨ k = 3 ∨ k = 4) with rfl | rfl | rfl | rfl | rfl
      · have c := HF.out wr hb 0
        simp only [List.getElem?_toArray, List.getElem?_cons_zero] at c
        have HC := Hid.mk' (HR1.out wr hbw)
        go_wp2_with fail
        refine HC.out.mono ?_
        rintro e w1 ⟨fv, rfl, hsay, hb1⟩
        have hbw1 := hbw.trans (hb1.mono hbw.size)
        rcases hsay.nil with ⟨hz, rfl⟩ | ⟨hnz, hf⟩
        · have hm' : Hid ((0 < 1 → x1 = (0, 0)) ∧ (1 < 1 → x2 = (0, 0)) ∧ (2 < 1 → x3 = (0, 0)) ∧ (3 < 1 → x4 = (0, 0))) := ⟨fun _ => hz, by omega, by omega, by omega⟩
          clear hsay hz
          go_wp2
          go_roundw
          case rel => exact ⟨1, rfl, by omega, hm', hb.trans (hb1.mono hszr)⟩
          case measure => simp [intOf]
        · have hX := Hid.mk' (HX1.out hnz)
          have HFL := Hid.mk' hf
          have HNZ := Hid.mk' hnz
          obtain ⟨fb, -, rfl, -, -⟩ := hf
          clear hsay hnz
          go_wp2
          go_ret
          exact ⟨_, rfl, by rw [hX.out]; exact .inr ⟨HNZ.out, HFL.out.weaken hbw.size rfl⟩, hbw1⟩
      · have c := HF.out wr hb 1
        simp only [List.getElem?_toArray, List.getElem?_cons_succ, List.getElem?_cons_zero] at c
        have HC := Hid.mk' (HR2.out wr hbw)
        go_wp2_with fail
        refine HC.out.mono ?_
        rintro e w1 ⟨fv, rfl, hsay, hb1⟩
        have hbw1 := hbw.trans (hb1.mono hbw.size)
        rcases hsay.nil with ⟨hz, rfl⟩ | ⟨hnz, hf⟩
        · have hm' : Hid ((0 < 2 → x1 = (0, 0)) ∧ (1 < 2 → x2 = (0, 0)) ∧ (2 < 2 → x3 = (0, 0)) ∧ (3 < 2 → x4 = (0, 0))) := ⟨fun _ => hm.out.1 (by omega), fun _ => hz, by omega, by omega⟩
          clear hsay hz
          go_wp2
          go_roundw
          case rel => exact ⟨2, rfl, by omega, hm', hb.trans (hb1.mono hszr)⟩
          case measure => simp [intOf]
        · have hX := Hid.mk' (HX2.out (hm.out.1 (by omega)) hnz)
          have HFL := Hid.mk' hf
          have HNZ := Hid.mk' hnz
          obtain ⟨fb, -, rfl, -, -⟩ := hf
          clear hsay hnz
          go_wp2
          go_ret
          exact ⟨_, rfl, by rw [hX.out]; exact .inr ⟨HNZ.out, HFL.out.weaken hbw.size rfl⟩, hbw1⟩
      · have c := HF.out wr hb 2
        simp only [List.getElem?_toArray, List.getElem?_cons_succ, List.getElem?_cons_zero] at c
        have HC := Hid.mk' (HR3.out wr hbw)
        go_wp2_with fail
        refine HC.out.mono ?_
        rintro e w1 ⟨fv, rfl, hsay, hb1⟩
        have hbw1 := hbw.trans (hb1.mono hbw.size)
        rcases hsay.nil with ⟨hz, rfl⟩ | ⟨hnz, hf⟩
        · have hm' : Hid ((0 < 3 → x1 = (0, 0)) ∧ (1 < 3 → x2 = (0, 0)) ∧ (2 < 3 → x3 = (0, 0)) ∧ (3 < 3 → x4 = (0, 0))) := ⟨fun _ => hm.out.1 (by omega), fun _ => hm.out.2.1 (by omega), fun _ => hz, by omega⟩
          clear hsay hz
          go_wp2
          go_roundw
          case rel => exact ⟨3, rfl, by omega, hm', hb.trans (hb1.mono hszr)⟩
          case measure => simp [intOf]
        · have hX := Hid.mk' (HX3.out (hm.out.1 (by omega)) (hm.out.2.1 (by omega)) hnz)
          have HFL := Hid.mk' hf
          have HNZ := Hid.mk' hnz
          obtain ⟨fb, -, rfl, -, -⟩ := hf
          clear hsay hnz
          go_wp2
          go_ret
          exact ⟨_, rfl, by rw [hX.out]; exact .inr ⟨HNZ.out, HFL.out.weaken hbw.size rfl⟩, hbw1⟩
      · have c := HF.out wr hb 3
        simp only [List.getElem?_toArray, List.getElem?_cons_succ, List.getElem?_cons_zero] at c
        have HC := Hid.mk' (HR4.out wr hbw (by rw [hm.out.1 (by omega)]) (by rw [hm.out.2.1 (by omega)]) (by rw [hm.out.2.2.1 (by omega)]))
        go_wp2_with fail
        refine HC.out.mono ?_
        rintro e w1 ⟨fv, rfl, hsay, hb1⟩
        have hbw1 := hbw.trans (hb1.mono hbw.size)
        rcases hsay.nil with ⟨hz, rfl⟩ | ⟨hnz, hf⟩
        · have hm' : Hid ((0 < 4 → x1 = (0, 0)) ∧ (1 < 4 → x2 = (0, 0)) ∧ (2 < 4 → x3 = (0, 0)) ∧ (3 < 4 → x4 = (0, 0))) := ⟨fun _ => hm.out.1 (by omega), fun _ => hm.out.2.1 (by omega), fun _ => hm.out.2.2.1 (by omega), fun _ => hz⟩
          clear hsay hz
          go_wp2
          go_roundw
          case rel => exact ⟨4, rfl, by omega, hm', hb.trans (hb1.mono hszr)⟩
          case measure => simp [intOf]
        · have hX := Hid.mk' (HX.out (hm.out.1 (by omega)) (hm.out.2.1 (by omega)) (hm.out.2.2.1 (by omega)))
          have HFL := Hid.mk' hf
          have HNZ := Hid.mk' hnz
          obtain ⟨fb, -, rfl, -, -⟩ := hf
          clear hsay hnz
          go_wp2
          go_ret
          exact ⟨_, rfl, by rw [hX.out]; exact .inr ⟨HNZ.out, HFL.out.weaken hbw.size rfl⟩, hbw1⟩
      · have hX := Hid.mk' (HX.out (hm.out.1 (by omega)) (hm.out.2.1 (by omega)) (hm.out.2.2.1 (by omega)))
        have h4 := Hid.mk' (hm.out.2.2.2 (by omega))
        clear HR1 HR2 HR3 HR4 HE HF HX HX1 HX2 HX3
        go_wp2
        go_ret
        exact ⟨_, rfl, .inl ⟨by rw [hX.out, h4.out], rfl⟩, hbw⟩
end Go.Proofs.YtlnehhfljjeifaaGreatDoor
namespace Go.Proofs.YtlnehhfljjeifaaGreatDoor
open Go.RowKit

set_option maxRecDepth 20000 in
set_option maxHeartbeats 1000000 in
theorem len64_one (w : World) : Calls Tryz.prog 152 #[.int .u64 1] w fun e w' => (∃ l : Int, e = .returned (.int .i64 l)) ∧ w = w' := by
  go_enter Tryz.func152, Tryz.ntmps152
  go_wp2
  go_ret
  exact ⟨⟨_, rfl⟩, rfl⟩
set_option maxRecDepth 20000 in
set_option maxHeartbeats 1000000 in
theorem len_one (w : World) : Calls Tryz.prog 140 #[.int .u64 1] w fun e w' => (∃ l : Int, e = .returned (.int .i64 l)) ∧ w = w' := by
  go_enter Tryz.func140, Tryz.ntmps140
  go_wp2_with fail
  refine (len64_one w).mono ?_
  rintro e w' ⟨⟨l, rfl⟩, rfl⟩
  go_wp2
  go_ret
  exact ⟨⟨_, rfl⟩, rfl⟩
set_option maxHeartbeats 1000000 in
theorem insertion_one (a : Option Addr) (cap : Nat) (w : World) : Calls Tryz.prog 158 #[.slice a 1 cap, .int .i64 0, .int .i64 1] w fun e w' => e = .returned (.tuple #[]) ∧ w = w' := by
  go_enter Tryz.func158, Tryz.ntmps158
  go_wp2
  refine wp_loop_rounds 1 ?_
  rw [rounds_succ]
  go_wp2
  go_end0
  exact ⟨rfl, rfl⟩
set_option maxRecDepth 20000 in
set_option maxHeartbeats 1000000 in
theorem pdq_one (a : Option Addr) (cap : Nat) (l : Int) (w : World) : Calls Tryz.prog 139 #[.slice a 1 cap, .int .i64 0, .int .i64 1, .int .i64 l] w fun e w' => e = .returned (.tuple #[]) ∧ w = w' := by
  have HI := Hid.mk' (insertion_one a cap w)
  go_enter Tryz.func139, Tryz.ntmps139
  go_wp2
  refine wp_loop_rounds 1 ?_
  rw [rounds_succ]
  go_wp2_with (go_at_call 158; refine HI.out.mono ?_; rintro e w' ⟨rfl, rfl⟩)
  (try simp only [Exit.inBlock, Exit.then]); refine bodyPost_ret (results_none rfl _ _ _) rfl ?_
  exact ⟨rfl, rfl⟩
set_option maxRecDepth 20000 in
set_option maxHeartbeats 1000000 in
theorem sort_one (B : Nat) : SortsAt 1 B := by
  intro W v rs hl ho
  obtain ⟨a, c, rfl⟩ := own_slice ho
  rw [hl] at ho ⊢
  have HL := Hid.mk' (len_one W)
  have HP := Hid.mk' (fun l => pdq_one a c l W)
  have HO := Hid.mk' ho
  clear ho
  go_enter Tryz.func103, Tryz.ntmps103
  go_wp2_with fail
  refine HL.out.mono ?_
  rintro e w' ⟨⟨l, rfl⟩, rfl⟩
  go_wp2_with fail
  refine (HP.out l).mono ?_
  rintro e w' ⟨rfl, rfl⟩
  go_wp2
  go_end0
  refine ⟨rfl, rs, List.Perm.refl _, fun i j hij hj => ?_, HO.out, fun w0 h => h⟩
  obtain rfl : i = 0 := by omega
  obtain rfl : j = 0 := by omega
  exact Int.le_refl _
def exNorm : Nm := ⟨[⟨233, [101, 769]⟩], [⟨769, 769, 230⟩], []⟩
theorem exNorm_chk : chk4 exNorm = (0, 0) := by decide
theorem exNorm_one : oneM exNorm.rows 233 = [101, 769] := by decide
theorem exNorm_syl : oneM exNorm.rows 44033 = [4352, 4449, 4520] := by decide
end Go.Proofs.YtlnehhfljjeifaaGreatDoor
namespace Go.Proofs.YtlnehhfljjeifaaGreatDoor
open Go.RowKit

/-- runes of new memory -/
theorem runes_new (w : World) (rs : List Int) : Runes (w.alloc (.cells (rs.map (Value.int .i32)).toArray 21)) (.slice (some ⟨w.heap.size, 0, none⟩) rs.length rs.length) rs := by
  refine ⟨_, _, rfl, fun j hj => ⟨w.heap.size, 0, rfl, ?_⟩⟩
  rw [Nat.zero_add, World.cell?_alloc_new]
  simp [List.getElem?_eq_getElem hj]
theorem runes_nil (w : World) : Runes w (.slice none 0 0) [] := ⟨none, 0, rfl, fun j hj => by simp at hj⟩
end Go.Proofs.YtlnehhfljjeifaaGreatDoor

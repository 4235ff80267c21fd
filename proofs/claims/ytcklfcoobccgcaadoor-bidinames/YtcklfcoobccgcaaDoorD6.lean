/-
  What is proved here: what the reference's Broken of layer 9 answers.
-/
import Derived.Test.YtcklfcoobccgcaaDoorD5
namespace Go.Proofs.YtcklfcoobccgcaaDoor
open Go.RowKit Go.Shelf

set_option maxRecDepth 20000 in
set_option maxHeartbeats 16000000 in
theorem refBroken_any (a : Nat → Option Addr) (c : Nat → Nat) (t : Nat → List Rg) (va : Option Addr) (vcap : Nat) (l : List Int) (w : World) (h : Asked w a c t va vcap l) :
    Calls Tryd.prog 10 #[PV a c t, .slice va l.length vcap] w fun e w' => e = .returned (.tuple #[.int .i64 (brkM (dirsM (t 9) l)).1, .int .i64 (brkM (dirsM (t 9) l)).2]) ∧ Below w.heap.size w w' := by
  obtain ⟨W0, hW0, hsz0, hb0, hp⟩ := prop_box w a c t
  have hlen := dirsM_len (t 9) l
  have HD : Hid (∀ W k, Below W0.heap.size W0 W → k < l.length → (Calls Tryd.prog 28 #[PV a c t, .int .i32 (l.getD k 0)] W fun e w' => e = .returned (.int .i64 ((dirsM (t 9) l).getD k 0)) ∧ Below W.heap.size W w')) := fun W k hb hk => by
    rw [dirsM_at hk]
    exact dir_any a c t _ W ((h.tab.below hb0).below hb) (by have := h.ok.len; omega)
  have HV : Hid (∀ W, Below W0.heap.size W0 W → ∀ j, j < l.length → ∃ b off, va = some ⟨b, off, none⟩ ∧ W.cell? ⟨b, off + j, none⟩ = some (.int .i32 (l.getD j 0))) := fun W hb j hj => by
    obtain ⟨va', vc', e, h⟩ := (h.runes.below hb0).below hb
    injection e with e1 e2 e3
    obtain ⟨b, off, e4, hc⟩ := h j hj
    exact ⟨b, off, e1.trans e4, hc⟩
  have HP : Hid (∀ W, Below W0.heap.size W0 W → (W.cell? ⟨w.heap.size, 0, none⟩ = some (.slice (a 0) (t 0).length (c 0)) ∧ W.cell? ⟨w.heap.size, 1, none⟩ = some (.slice (a 1) (t 1).length (c 1)) ∧ W.cell? ⟨w.heap.size, 2, none⟩ = some (.slice (a 2) (t 2).length (c 2)) ∧ W.cell? ⟨w.heap.size, 3, none⟩ = some (.slice (a 3) (t 3).length (c 3)) ∧ W.cell? ⟨w.heap.size, 4, none⟩ = some (.slice (a 4) (t 4).length (c 4)) ∧ W.cell? ⟨w.heap.size, 5, none⟩ = some (.slice (a 5) (t 5).length (c 5)) ∧ W.cell? ⟨w.heap.size, 6, none⟩ = some (.slice (a 6) (t 6).length (c 6)) ∧ W.cell? ⟨w.heap.size, 7, none⟩ = some (.slice (a 7) (t 7).length (c 7)) ∧ W.cell? ⟨w.heap.size, 8, none⟩ = some (.slice (a 8) (t 8).length (c 8)) ∧ W.cell? ⟨w.heap.size, 9, none⟩ = some (.slice (a 9) (t 9).length (c 9)) ∧ W.cell? ⟨w.heap.size, 10, none⟩ = some (.slice (a 10) (t 10).length (c 10)))) := fun W hb => by
    have q := hp.below hb
    exact ⟨q 0 (by omega), q 1 (by omega), q 2 (by omega), q 3 (by omega), q 4 (by omega), q 5 (by omega), q 6 (by omega), q 7 (by omega), q 8 (by omega), q 9 (by omega), q 10 (by omega)⟩
  have HT : Hid (∀ W W', Below W0.heap.size W0 W → Below W.heap.size W W' → Below W0.heap.size W0 W') := fun W W' h1 h2 => h1.trans (h2.mono h1.size)
  have HB : Hid (∀ W, Below W0.heap.size W0 W → Below w.heap.size w W) := fun W hb => hb0.trans (hb.mono hb0.size)
  have HE9 : Hid (∀ W, Below W0.heap.size W0 W → _) := fun W hb => refEnd_any a c t va vcap l W ((h.below hb0).below hb)
  have hll := h.len
  have hdirs := h.dirs
  unfold PV at HD HE9 ⊢
  generalize dirsM (t 9) l = ds at *
  clear h hp hb0
  by_cases h0 : l.length = 0
  · have HR := Hid.mk' (brk_empty (ds := ds) (by omega))
    have hz : ((l.length : Int) == 0) = true := by simpa using h0
    have HB0 := Hid.mk' (HB.out W0 (Below.refl _ _))
    clear HD HV HP HT HE9 h0 hdirs hlen
    go_enter Tryd.func10, Tryd.ntmps10
    go_wp2
    go_ret2
    exact ⟨ret_two9 (b := (1, 0)) HR.out, HB0.out⟩
  have hz : ((l.length : Int) == 0) = false := by simpa using h0
  have h0z : (0 : Int) < (l.length : Int) := by omega
  have h0n : 0 < l.length := by omega
  have hd0 : ds.length ≠ 0 := by omega
  obtain ⟨b, off, rfl, -⟩ := HV.out W0 (Below.refl _ _) 0 (by omega)
  have HK0 : Hid (∀ W, Below W0.heap.size W0 W → (W.cell? ⟨w.heap.size, 0, none⟩ = some (.slice (a 0) (t 0).length (c 0)) ∧ W.cell? ⟨w.heap.size, 1, none⟩ = some (.slice (a 1) (t 1).length (c 1)) ∧ W.cell? ⟨w.heap.size, 2, none⟩ = some (.slice (a 2) (t 2).length (c 2)) ∧ W.cell? ⟨w.heap.size, 3, none⟩ = some (.slice (a 3) (t 3).length (c 3)) ∧ W.cell? ⟨w.heap.size, 4, none⟩ = some (.slice (a 4) (t 4).length (c 4)) ∧ W.cell? ⟨w.heap.size, 5, none⟩ = some (.slice (a 5) (t 5).length (c 5)) ∧ W.cell? ⟨w.heap.size, 6, none⟩ = some (.slice (a 6) (t 6).length (c 6)) ∧ W.cell? ⟨w.heap.size, 7, none⟩ = some (.slice (a 7) (t 7).length (c 7)) ∧ W.cell? ⟨w.heap.size, 8, none⟩ = some (.slice (a 8) (t 8).length (c 8)) ∧ W.cell? ⟨w.heap.size, 9, none⟩ = some (.slice (a 9) (t 9).length (c 9)) ∧ W.cell? ⟨w.heap.size, 10, none⟩ = some (.slice (a 10) (t 10).length (c 10))) ∧ W.cell? ⟨b, off, none⟩ = some (.int .i32 (l.getD 0 0))) := fun W hb => by
    obtain ⟨b', off', e, q⟩ := HV.out W hb 0 (by omega)
    injection e with e
    injection e with e1 e2
    subst e1 e2
    exact ⟨HP.out W hb, q⟩
  have HD0 : Hid (∀ W, Below W0.heap.size W0 W → _) := fun W hb => HD.out W 0 hb (by omega)
  have hbd0 := (Below.refl W0.heap.size W0).drew
  have HS1 : Hid (3 < ds.getD 0 0 → brkM ds = (1, 0)) := fun h3 => brk_start hd0 h3
  have HEL : endM ds < l.length := by have := endF_lt (ds := ds) (n := ds.length) (by omega); unfold endM; omega
  have hdE := hdirs (endM ds) (by omega)
  have HW2 : Hid (¬ 3 < ds.getD 0 0 → 1 < ds.getD 0 0 → ∀ k, k < l.length → (∀ i, i < k → isL (ds.getD i 0) = false) → isL (ds.getD k 0) = true → brkM ds = (2, (k : Int))) := fun h3 h1 k hk q1 q2 => brk_2 hd0 h3 h1 (by omega) q1 q2
  have HW3 : Hid (¬ 3 < ds.getD 0 0 → 1 < ds.getD 0 0 → (∀ i, i < l.length → isL (ds.getD i 0) = false) → 5 < ds.getD (endM ds) 0 → brkM ds = (3, (endM ds : Int))) := fun h3 h1 q h5 => brk_3 hd0 h3 h1 (fun i hi => q i (by omega)) h5
  have HW4 : Hid (¬ 3 < ds.getD 0 0 → 1 < ds.getD 0 0 → (∀ i, i < l.length → isL (ds.getD i 0) = false) → ¬ 5 < ds.getD (endM ds) 0 → ∀ k, k < l.length → (∀ i, i < k → bothB ds i = false) → bothB ds k = true → brkM ds = (4, (k : Int))) := fun h3 h1 q h5 k hk q1 q2 => brk_4 hd0 h3 h1 (fun i hi => q i (by omega)) h5 (by omega) q1 q2
  have HWR : Hid (¬ 3 < ds.getD 0 0 → 1 < ds.getD 0 0 → (∀ i, i < l.length → isL (ds.getD i 0) = false) → ¬ 5 < ds.getD (endM ds) 0 → (∀ i, i < l.length → bothB ds i = false) → brkM ds = (0, 0)) := fun h3 h1 q h5 q1 => brk_right hd0 h3 h1 (fun i hi => q i (by omega)) h5 (fun i hi => q1 i (by omega))
  have HW5 : Hid (¬ 3 < ds.getD 0 0 → ¬ 1 < ds.getD 0 0 → ∀ k, k < l.length → (∀ i, i < k → isR (ds.getD i 0) = false) → isR (ds.getD k 0) = true → brkM ds = (5, (k : Int))) := fun h3 h1 k hk q1 q2 => brk_5 hd0 h3 h1 (by omega) q1 q2
  have HW6 : Hid (¬ 3 < ds.getD 0 0 → ¬ 1 < ds.getD 0 0 → (∀ i, i < l.length → isR (ds.getD i 0) = false) → (ds.getD (endM ds) 0 ≠ 1 ∧ ds.getD (endM ds) 0 ≠ 4) → brkM ds = (6, (endM ds : Int))) := fun h3 h1 q hz => brk_6 hd0 h3 h1 (fun i hi => q i (by omega)) hz
  have HWL : Hid (¬ 3 < ds.getD 0 0 → ¬ 1 < ds.getD 0 0 → (∀ i, i < l.length → isR (ds.getD i 0) = false) → ¬ (ds.getD (endM ds) 0 ≠ 1 ∧ ds.getD (endM ds) 0 ≠ 4) → brkM ds = (0, 0)) := fun h3 h1 q hz => brk_left hd0 h3 h1 (fun i hi => q i (by omega)) hz
  have HZL : Hid ((∀ i, i < l.length → isL (ds.getD i 0) = false) → ds.getD (endM ds) 0 ≠ 1) := fun q => by
    have := q (endM ds) (by omega)
    unfold isL at this
    simpa using this
  generalize brkM ds = res at *
  have HDE : Hid (∀ W, Below W0.heap.size W0 W → _) := fun W hb => HD.out W (endM ds) hb HEL
  have HKE : Hid (∀ W, Below W0.heap.size W0 W → (W.cell? ⟨w.heap.size, 0, none⟩ = some (.slice (a 0) (t 0).length (c 0)) ∧ W.cell? ⟨w.heap.size, 1, none⟩ = some (.slice (a 1) (t 1).length (c 1)) ∧ W.cell? ⟨w.heap.size, 2, none⟩ = some (.slice (a 2) (t 2).length (c 2)) ∧ W.cell? ⟨w.heap.size, 3, none⟩ = some (.slice (a 3) (t 3).length (c 3)) ∧ W.cell? ⟨w.heap.size, 4, none⟩ = some (.slice (a 4) (t 4).length (c 4)) ∧ W.cell? ⟨w.heap.size, 5, none⟩ = some (.slice (a 5) (t 5).length (c 5)) ∧ W.cell? ⟨w.heap.size, 6, none⟩ = some (.slice (a 6) (t 6).length (c 6)) ∧ W.cell? ⟨w.heap.size, 7, none⟩ = some (.slice (a 7) (t 7).length (c 7)) ∧ W.cell? ⟨w.heap.size, 8, none⟩ = some (.slice (a 8) (t 8).length (c 8)) ∧ W.cell? ⟨w.heap.size, 9, none⟩ = some (.slice (a 9) (t 9).length (c 9)) ∧ W.cell? ⟨w.heap.size, 10, none⟩ = some (.slice (a 10) (t 10).length (c 10))) ∧ W.cell? ⟨b, off + endM ds, none⟩ = some (.int .i32 (l.getD (endM ds) 0))) := fun W hb => by
    obtain ⟨b', off', e, q⟩ := HV.out W hb (endM ds) HEL
    injection e with e
    injection e with e1 e2
    subst e1 e2
    exact ⟨HP.out W hb, q⟩
  generalize endM ds = E at *
  generalize l.getD E 0 = rE at *
  generalize l.getD 0 0 = r0 at *
  generalize ds.getD E 0 = z at *
  have hEz : (E : Int) < (l.length : Int) := by omega
  clear hdirs
  by_cases h3 : 3 < ds.getD 0 0
  · have HR := Hid.mk' (HS1.out h3)
    have hd3 : decide (3 < ds.getD 0 0) = true := decide_eq_true h3
    generalize ds.getD 0 0 = d0 at *
    clear HW2 HW3 HW4 HWR HW5 HW6 HWL HZL HS1 HDE HKE HE9 HD h3
    go_enter Tryd.func10, Tryd.ntmps10
    go_wp2
    go_region_held3 (fun W' => (W'.cell? ⟨w.heap.size, 0, none⟩ = some (.slice (a 0) (t 0).length (c 0)) ∧ W'.cell? ⟨w.heap.size, 1, none⟩ = some (.slice (a 1) (t 1).length (c 1)) ∧ W'.cell? ⟨w.heap.size, 2, none⟩ = some (.slice (a 2) (t 2).length (c 2)) ∧ W'.cell? ⟨w.heap.size, 3, none⟩ = some (.slice (a 3) (t 3).length (c 3)) ∧ W'.cell? ⟨w.heap.size, 4, none⟩ = some (.slice (a 4) (t 4).length (c 4)) ∧ W'.cell? ⟨w.heap.size, 5, none⟩ = some (.slice (a 5) (t 5).length (c 5)) ∧ W'.cell? ⟨w.heap.size, 6, none⟩ = some (.slice (a 6) (t 6).length (c 6)) ∧ W'.cell? ⟨w.heap.size, 7, none⟩ = some (.slice (a 7) (t 7).length (c 7)) ∧ W'.cell? ⟨w.heap.size, 8, none⟩ = some (.slice (a 8) (t 8).length (c 8)) ∧ W'.cell? ⟨w.heap.size, 9, none⟩ = some (.slice (a 9) (t 9).length (c 9)) ∧ W'.cell? ⟨w.heap.size, 10, none⟩ = some (.slice (a 10) (t 10).length (c 10))) ∧ W'.cell? ⟨b, off, none⟩ = some (.int .i32 r0)) (exact HK0.out _ (by assumption)) (first
      | (go_at_call 28; refine (HD0.out _ (by assumption)).mono ?_; rintro e wA ⟨rfl, hbA⟩; have hzA := HT.out _ _ (by assumption) hbA))
    have HBA := Hid.mk' (HB.out _ hzA)
    go_wp2
    go_ret2
    exact ⟨ret_two9 (b := (1, 0)) HR.out, HBA.out⟩
  have hd3 : decide (3 < ds.getD 0 0) = false := decide_eq_false h3
  by_cases h1 : 1 < ds.getD 0 0
  · have hd1 : decide (1 < ds.getD 0 0) = true := decide_eq_true h1
    have HX2 := Hid.mk' (HW2.out h3 h1)
    have HX3 := Hid.mk' (HW3.out h3 h1)
    have HX4 := Hid.mk' (HW4.out h3 h1)
    have HXR := Hid.mk' (HWR.out h3 h1)
    generalize ds.getD 0 0 = d0 at *
    clear HW2 HW3 HW4 HWR HW5 HW6 HWL HS1 h3 h1
    go_enter Tryd.func10, Tryd.ntmps10
    go_wp2
    go_region_held3 (fun W' => (W'.cell? ⟨w.heap.size, 0, none⟩ = some (.slice (a 0) (t 0).length (c 0)) ∧ W'.cell? ⟨w.heap.size, 1, none⟩ = some (.slice (a 1) (t 1).length (c 1)) ∧ W'.cell? ⟨w.heap.size, 2, none⟩ = some (.slice (a 2) (t 2).length (c 2)) ∧ W'.cell? ⟨w.heap.size, 3, none⟩ = some (.slice (a 3) (t 3).length (c 3)) ∧ W'.cell? ⟨w.heap.size, 4, none⟩ = some (.slice (a 4) (t 4).length (c 4)) ∧ W'.cell? ⟨w.heap.size, 5, none⟩ = some (.slice (a 5) (t 5).length (c 5)) ∧ W'.cell? ⟨w.heap.size, 6, none⟩ = some (.slice (a 6) (t 6).length (c 6)) ∧ W'.cell? ⟨w.heap.size, 7, none⟩ = some (.slice (a 7) (t 7).length (c 7)) ∧ W'.cell? ⟨w.heap.size, 8, none⟩ = some (.slice (a 8) (t 8).length (c 8)) ∧ W'.cell? ⟨w.heap.size, 9, none⟩ = some (.slice (a 9) (t 9).length (c 9)) ∧ W'.cell? ⟨w.heap.size, 10, none⟩ = some (.slice (a 10) (t 10).length (c 10))) ∧ W'.cell? ⟨b, off, none⟩ = some (.int .i32 r0)) (exact HK0.out _ (by assumption)) (first
      | (go_at_call 28; refine (HD0.out _ (by assumption)).mono ?_; rintro e wA ⟨rfl, hbA⟩; have hzA := HT.out _ _ (by assumption) hbA))
    clear HK0 HD0 hbd0 hbA
    have HEA := Hid.mk' (HE9.out _ hzA)
    obtain ⟨x0, x1, x2, x3, x4, x5, x6, x7, x8, x9, x10⟩ := HP.out _ hzA
    have HZA := Hid.mk' hzA
    clear hzA
    go_wp2_with fail
    refine HEA.out.mono ?_
    rintro e wE ⟨rfl, hbE⟩
    have hzE := HT.out _ _ HZA.out hbE
    have hbdE := hzE.drew
    clear HEA HE9 HZA hbE x0 x1 x2 x3 x4 x5 x6 x7 x8 x9 x10
    go_wp2
    go_region_held3 (fun W' => (W'.cell? ⟨w.heap.size, 0, none⟩ = some (.slice (a 0) (t 0).length (c 0)) ∧ W'.cell? ⟨w.heap.size, 1, none⟩ = some (.slice (a 1) (t 1).length (c 1)) ∧ W'.cell? ⟨w.heap.size, 2, none⟩ = some (.slice (a 2) (t 2).length (c 2)) ∧ W'.cell? ⟨w.heap.size, 3, none⟩ = some (.slice (a 3) (t 3).length (c 3)) ∧ W'.cell? ⟨w.heap.size, 4, none⟩ = some (.slice (a 4) (t 4).length (c 4)) ∧ W'.cell? ⟨w.heap.size, 5, none⟩ = some (.slice (a 5) (t 5).length (c 5)) ∧ W'.cell? ⟨w.heap.size, 6, none⟩ = some (.slice (a 6) (t 6).length (c 6)) ∧ W'.cell? ⟨w.heap.size, 7, none⟩ = some (.slice (a 7) (t 7).length (c 7)) ∧ W'.cell? ⟨w.heap.size, 8, none⟩ = some (.slice (a 8) (t 8).length (c 8)) ∧ W'.cell? ⟨w.heap.size, 9, none⟩ = some (.slice (a 9) (t 9).length (c 9)) ∧ W'.cell? ⟨w.heap.size, 10, none⟩ = some (.slice (a 10) (t 10).length (c 10))) ∧ W'.cell? ⟨b, off + E, none⟩ = some (.int .i32 rE)) (exact HKE.out _ (by assumption)) (first
      | (go_at_call 28; refine (HDE.out _ (by assumption)).mono ?_; rintro e wB ⟨rfl, hbB⟩; have hzB := HT.out _ _ (by assumption) hbB))
    clear HKE HDE hbdE hzE hbB
    go_wp2
    go_loopw [9] (fun x wr => ∃ k : Nat, k ≤ l.length ∧ x = .int .i64 k ∧ Hid (∀ j, j < k → isL (ds.getD j 0) = false) ∧ Below W0.heap.size W0 wr) (fun x _ => l.length - (intOf x).toNat)
    case atStart => exact ⟨0, Nat.zero_le _, rfl, fun j hj => by omega, hzB⟩
    case round =>
      obtain ⟨k, hk, rfl, HA, hb⟩ := hrel
      clear hzB
      by_cases hlt : k < l.length
      · skip
        have HSk : Hid (∀ W, Below W0.heap.size W0 W → (W.cell? ⟨w.heap.size, 0, none⟩ = some (.slice (a 0) (t 0).length (c 0)) ∧ W.cell? ⟨w.heap.size, 1, none⟩ = some (.slice (a 1) (t 1).length (c 1)) ∧ W.cell? ⟨w.heap.size, 2, none⟩ = some (.slice (a 2) (t 2).length (c 2)) ∧ W.cell? ⟨w.heap.size, 3, none⟩ = some (.slice (a 3) (t 3).length (c 3)) ∧ W.cell? ⟨w.heap.size, 4, none⟩ = some (.slice (a 4) (t 4).length (c 4)) ∧ W.cell? ⟨w.heap.size, 5, none⟩ = some (.slice (a 5) (t 5).length (c 5)) ∧ W.cell? ⟨w.heap.size, 6, none⟩ = some (.slice (a 6) (t 6).length (c 6)) ∧ W.cell? ⟨w.heap.size, 7, none⟩ = some (.slice (a 7) (t 7).length (c 7)) ∧ W.cell? ⟨w.heap.size, 8, none⟩ = some (.slice (a 8) (t 8).length (c 8)) ∧ W.cell? ⟨w.heap.size, 9, none⟩ = some (.slice (a 9) (t 9).length (c 9)) ∧ W.cell? ⟨w.heap.size, 10, none⟩ = some (.slice (a 10) (t 10).length (c 10))) ∧ W.cell? ⟨b, off + k, none⟩ = some (.int .i32 (l.getD k 0))) := fun W hb => by
          obtain ⟨b', off', e, q⟩ := HV.out W hb k hlt
          injection e with e
          injection e with e1 e2
          subst e1 e2
          exact ⟨HP.out W hb, q⟩
        have HDk : Hid (∀ W, Below W0.heap.size W0 W → _) := fun W hb => HD.out W k hb hlt
        have HX : Hid (isL (ds.getD k 0) = false → ∀ j, j < k + 1 → isL (ds.getD j 0) = false) := fun e j hj => by
          rcases Nat.lt_or_ge j k with q | q
          · exact HA.out j q
          · obtain rfl : j = k := by omega
            exact e
        have HY := Hid.mk' (HX2.out k hlt HA.out)
        have hbd := hb.drew
        have hklz : (k : Int) < (l.length : Int) := by omega
        generalize ds.getD k 0 = d at *
        generalize l.getD k 0 = r at *
        clear HD HV HA HX2 HX3 HX4 HXR HZL
        go_wp2
        go_region_held3 (fun W' => (W'.cell? ⟨w.heap.size, 0, none⟩ = some (.slice (a 0) (t 0).length (c 0)) ∧ W'.cell? ⟨w.heap.size, 1, none⟩ = some (.slice (a 1) (t 1).length (c 1)) ∧ W'.cell? ⟨w.heap.size, 2, none⟩ = some (.slice (a 2) (t 2).length (c 2)) ∧ W'.cell? ⟨w.heap.size, 3, none⟩ = some (.slice (a 3) (t 3).length (c 3)) ∧ W'.cell? ⟨w.heap.size, 4, none⟩ = some (.slice (a 4) (t 4).length (c 4)) ∧ W'.cell? ⟨w.heap.size, 5, none⟩ = some (.slice (a 5) (t 5).length (c 5)) ∧ W'.cell? ⟨w.heap.size, 6, none⟩ = some (.slice (a 6) (t 6).length (c 6)) ∧ W'.cell? ⟨w.heap.size, 7, none⟩ = some (.slice (a 7) (t 7).length (c 7)) ∧ W'.cell? ⟨w.heap.size, 8, none⟩ = some (.slice (a 8) (t 8).length (c 8)) ∧ W'.cell? ⟨w.heap.size, 9, none⟩ = some (.slice (a 9) (t 9).length (c 9)) ∧ W'.cell? ⟨w.heap.size, 10, none⟩ = some (.slice (a 10) (t 10).length (c 10))) ∧ W'.cell? ⟨b, off + k, none⟩ = some (.int .i32 r)) (exact HSk.out _ (by assumption)) (first
          | (go_at_call 28; refine (HDk.out _ (by assumption)).mono ?_; rintro e wA ⟨rfl, hbA⟩; have hzA := HT.out _ _ (by assumption) hbA))
        clear HSk HDk hb hbd hbA
        cases hd : isL d
        · have HA1 := Hid.mk' (HX.out hd)
          have hd' : (d == 1) = false := hd
          clear HX HY hd
          go_wp2
          go_roundw
          case rel => exact ⟨k + 1, by omega, by go_num, HA1, hzA⟩
          case measure => simp [intOf]; omega
        · have HR := Hid.mk' (HY.out hd)
          have hd' : (d == 1) = true := hd
          have HBA := Hid.mk' (HB.out _ hzA)
          clear HX HY hd
          go_wp2
          go_ret2
          exact ⟨ret_two9 (b := (2, (k : Int))) HR.out, HBA.out⟩
      · obtain rfl : k = l.length := by omega
        have HY3 := Hid.mk' (HX3.out HA.out)
        have HY4 := Hid.mk' (HX4.out HA.out)
        have HYR := Hid.mk' (HXR.out HA.out)
        clear HX2 HX3 HX4 HXR HZL HA hlt hk
        by_cases h5 : 5 < z
        · have hd5 : decide (5 < z) = true := decide_eq_true h5
          have HR := Hid.mk' (HY3.out h5)
          have HBA := Hid.mk' (HB.out _ hb)
          clear HY3 HY4 HYR h5
          go_wp2
          go_ret2
          exact ⟨ret_two9 (b := (3, (E : Int))) HR.out, HBA.out⟩
        have hd5 : decide (5 < z) = false := decide_eq_false h5
        have HZ4 := Hid.mk' (HY4.out (Int.not_lt.1 h5))
        have HZR := Hid.mk' (HYR.out (Int.not_lt.1 h5))
        clear HY3 HY4 HYR h5
        go_wp2
        go_loopw [10, 11, 12] (fun xe xn x wr2 => ∃ k : Nat, k ≤ l.length ∧ x = .int .i64 k ∧ xe = .bool (seenB ds 4 k) ∧ xn = .bool (seenB ds 5 k) ∧ Hid (∀ j, j < k → bothB ds j = false) ∧ Below W0.heap.size W0 wr2) (fun _ _ x _ => l.length - (intOf x).toNat)
        case atStart => exact ⟨0, Nat.zero_le _, rfl, rfl, rfl, fun j hj => by omega, hb⟩
        case round =>
          obtain ⟨k, hk, rfl, rfl, rfl, HA, hb⟩ := hrel
          by_cases hlt : k < l.length
          · skip
            have HSk : Hid (∀ W, Below W0.heap.size W0 W → (W.cell? ⟨w.heap.size, 0, none⟩ = some (.slice (a 0) (t 0).length (c 0)) ∧ W.cell? ⟨w.heap.size, 1, none⟩ = some (.slice (a 1) (t 1).length (c 1)) ∧ W.cell? ⟨w.heap.size, 2, none⟩ = some (.slice (a 2) (t 2).length (c 2)) ∧ W.cell? ⟨w.heap.size, 3, none⟩ = some (.slice (a 3) (t 3).length (c 3)) ∧ W.cell? ⟨w.heap.size, 4, none⟩ = some (.slice (a 4) (t 4).length (c 4)) ∧ W.cell? ⟨w.heap.size, 5, none⟩ = some (.slice (a 5) (t 5).length (c 5)) ∧ W.cell? ⟨w.heap.size, 6, none⟩ = some (.slice (a 6) (t 6).length (c 6)) ∧ W.cell? ⟨w.heap.size, 7, none⟩ = some (.slice (a 7) (t 7).length (c 7)) ∧ W.cell? ⟨w.heap.size, 8, none⟩ = some (.slice (a 8) (t 8).length (c 8)) ∧ W.cell? ⟨w.heap.size, 9, none⟩ = some (.slice (a 9) (t 9).length (c 9)) ∧ W.cell? ⟨w.heap.size, 10, none⟩ = some (.slice (a 10) (t 10).length (c 10))) ∧ W.cell? ⟨b, off + k, none⟩ = some (.int .i32 (l.getD k 0))) := fun W hb => by
              obtain ⟨b', off', e, q⟩ := HV.out W hb k hlt
              injection e with e
              injection e with e1 e2
              subst e1 e2
              exact ⟨HP.out W hb, q⟩
            have HDk : Hid (∀ W, Below W0.heap.size W0 W → _) := fun W hb => HD.out W k hb hlt
            have HX : Hid (bothB ds k = false → ∀ j, j < k + 1 → bothB ds j = false) := fun e j hj => by
              rcases Nat.lt_or_ge j k with q | q
              · exact HA.out j q
              · obtain rfl : j = k := by omega
                exact e
            have HY := Hid.mk' (HZ4.out k hlt HA.out)
            have HS4 := Hid.mk' (seenB_succ ds 4 k)
            have HS5 := Hid.mk' (seenB_succ ds 5 k)
            have HBB : Hid (bothB ds k = (seenB ds 4 (k + 1) && seenB ds 5 (k + 1))) := rfl
            have hbd := hb.drew
            have hklz : (k : Int) < (l.length : Int) := by omega
            generalize seenB ds 4 k = s4 at *
            generalize seenB ds 5 k = s5 at *
            generalize ds.getD k 0 = d at *
            generalize l.getD k 0 = r at *
            have hbd2 := hbd.drew
            clear HD HV HA HZ4 HZR
            go_wp2
            cases s4
            · skip
              go_region_held3 (fun W' => (W'.cell? ⟨w.heap.size, 0, none⟩ = some (.slice (a 0) (t 0).length (c 0)) ∧ W'.cell? ⟨w.heap.size, 1, none⟩ = some (.slice (a 1) (t 1).length (c 1)) ∧ W'.cell? ⟨w.heap.size, 2, none⟩ = some (.slice (a 2) (t 2).length (c 2)) ∧ W'.cell? ⟨w.heap.size, 3, none⟩ = some (.slice (a 3) (t 3).length (c 3)) ∧ W'.cell? ⟨w.heap.size, 4, none⟩ = some (.slice (a 4) (t 4).length (c 4)) ∧ W'.cell? ⟨w.heap.size, 5, none⟩ = some (.slice (a 5) (t 5).length (c 5)) ∧ W'.cell? ⟨w.heap.size, 6, none⟩ = some (.slice (a 6) (t 6).length (c 6)) ∧ W'.cell? ⟨w.heap.size, 7, none⟩ = some (.slice (a 7) (t 7).length (c 7)) ∧ W'.cell? ⟨w.heap.size, 8, none⟩ = some (.slice (a 8) (t 8).length (c 8)) ∧ W'.cell? ⟨w.heap.size, 9, none⟩ = some (.slice (a 9) (t 9).length (c 9)) ∧ W'.cell? ⟨w.heap.size, 10, none⟩ = some (.slice (a 10) (t 10).length (c 10))) ∧ W'.cell? ⟨b, off + k, none⟩ = some (.int .i32 r)) (exact HSk.out _ (by assumption)) (first
                | (go_at_call 28; refine (HDk.out _ (by assumption)).mono ?_; rintro e wA ⟨rfl, hbwA⟩; have hz1 := HT.out _ _ (by assumption) hbwA))
              have hz1d := hz1.drew
              cases h4d : d == 4
              · have HS4' : Hid (seenB ds 4 (k + 1) = false) := HS4.out.trans (by rw [h4d]; rfl)
                clear HS4
                have HS4 := HS4'
                clear HS4'
                go_wp2
                cases s5
                · skip
                  go_region_held3 (fun W' => (W'.cell? ⟨w.heap.size, 0, none⟩ = some (.slice (a 0) (t 0).length (c 0)) ∧ W'.cell? ⟨w.heap.size, 1, none⟩ = some (.slice (a 1) (t 1).length (c 1)) ∧ W'.cell? ⟨w.heap.size, 2, none⟩ = some (.slice (a 2) (t 2).length (c 2)) ∧ W'.cell? ⟨w.heap.size, 3, none⟩ = some (.slice (a 3) (t 3).length (c 3)) ∧ W'.cell? ⟨w.heap.size, 4, none⟩ = some (.slice (a 4) (t 4).length (c 4)) ∧ W'.cell? ⟨w.heap.size, 5, none⟩ = some (.slice (a 5) (t 5).length (c 5)) ∧ W'.cell? ⟨w.heap.size, 6, none⟩ = some (.slice (a 6) (t 6).length (c 6)) ∧ W'.cell? ⟨w.heap.size, 7, none⟩ = some (.slice (a 7) (t 7).length (c 7)) ∧ W'.cell? ⟨w.heap.size, 8, none⟩ = some (.slice (a 8) (t 8).length (c 8)) ∧ W'.cell? ⟨w.heap.size, 9, none⟩ = some (.slice (a 9) (t 9).length (c 9)) ∧ W'.cell? ⟨w.heap.size, 10, none⟩ = some (.slice (a 10) (t 10).length (c 10))) ∧ W'.cell? ⟨b, off + k, none⟩ = some (.int .i32 r)) (exact HSk.out _ (by assumption)) (first
                    | (go_at_call 28; refine (HDk.out _ (by assumption)).mono ?_; rintro e wB ⟨rfl, hbwB⟩; have hz2 := HT.out _ _ (by assumption) hbwB))
                  cases h5d : d == 5
                  · have HS5' : Hid (seenB ds 5 (k + 1) = false) := HS5.out.trans (by rw [h5d]; rfl)
                    clear HS5
                    have HS5 := HS5'
                    clear HS5'
                    have HA1 := Hid.mk' (HX.out (by rw [HBB.out, HS4.out, HS5.out]; rfl))
                    clear HX HY HBB HSk HDk
                    go_wp2
                    go_roundw
                    case rel => exact ⟨k + 1, by omega, by go_num, by rw [HS4.out], by rw [HS5.out], HA1, hz2⟩
                    case measure => simp [intOf]; omega
                  · have HS5' : Hid (seenB ds 5 (k + 1) = true) := HS5.out.trans (by rw [h5d]; rfl)
                    clear HS5
                    have HS5 := HS5'
                    clear HS5'
                    have HA1 := Hid.mk' (HX.out (by rw [HBB.out, HS4.out, HS5.out]; rfl))
                    clear HX HY HBB HSk HDk
                    go_wp2
                    go_roundw
                    case rel => exact ⟨k + 1, by omega, by go_num, by rw [HS4.out], by rw [HS5.out], HA1, hz2⟩
                    case measure => simp [intOf]; omega
                · have HS5' : Hid (seenB ds 5 (k + 1) = true) := HS5.out
                  clear HS5
                  have HS5 := HS5'
                  clear HS5'
                  go_region
                  have hz2 := hz1d
                  have HA1 := Hid.mk' (HX.out (by rw [HBB.out, HS4.out, HS5.out]; rfl))
                  clear HX HY HBB HSk HDk
                  go_wp2
                  go_roundw
                  case rel => exact ⟨k + 1, by omega, by go_num, by rw [HS4.out], by rw [HS5.out], HA1, hz2⟩
                  case measure => simp [intOf]; omega
              · have HS4' : Hid (seenB ds 4 (k + 1) = true) := HS4.out.trans (by rw [h4d]; rfl)
                clear HS4
                have HS4 := HS4'
                clear HS4'
                go_wp2
                cases s5
                · skip
                  go_region_held3 (fun W' => (W'.cell? ⟨w.heap.size, 0, none⟩ = some (.slice (a 0) (t 0).length (c 0)) ∧ W'.cell? ⟨w.heap.size, 1, none⟩ = some (.slice (a 1) (t 1).length (c 1)) ∧ W'.cell? ⟨w.heap.size, 2, none⟩ = some (.slice (a 2) (t 2).length (c 2)) ∧ W'.cell? ⟨w.heap.size, 3, none⟩ = some (.slice (a 3) (t 3).length (c 3)) ∧ W'.cell? ⟨w.heap.size, 4, none⟩ = some (.slice (a 4) (t 4).length (c 4)) ∧ W'.cell? ⟨w.heap.size, 5, none⟩ = some (.slice (a 5) (t 5).length (c 5)) ∧ W'.cell? ⟨w.heap.size, 6, none⟩ = some (.slice (a 6) (t 6).length (c 6)) ∧ W'.cell? ⟨w.heap.size, 7, none⟩ = some (.slice (a 7) (t 7).length (c 7)) ∧ W'.cell? ⟨w.heap.size, 8, none⟩ = some (.slice (a 8) (t 8).length (c 8)) ∧ W'.cell? ⟨w.heap.size, 9, none⟩ = some (.slice (a 9) (t 9).length (c 9)) ∧ W'.cell? ⟨w.heap.size, 10, none⟩ = some (.slice (a 10) (t 10).length (c 10))) ∧ W'.cell? ⟨b, off + k, none⟩ = some (.int .i32 r)) (exact HSk.out _ (by assumption)) (first
                    | (go_at_call 28; refine (HDk.out _ (by assumption)).mono ?_; rintro e wB ⟨rfl, hbwB⟩; have hz2 := HT.out _ _ (by assumption) hbwB))
                  cases h5d : d == 5
                  · have HS5' : Hid (seenB ds 5 (k + 1) = false) := HS5.out.trans (by rw [h5d]; rfl)
                    clear HS5
                    have HS5 := HS5'
                    clear HS5'
                    have HA1 := Hid.mk' (HX.out (by rw [HBB.out, HS4.out, HS5.out]; rfl))
                    clear HX HY HBB HSk HDk
                    go_wp2
                    go_roundw
                    case rel => exact ⟨k + 1, by omega, by go_num, by rw [HS4.out], by rw [HS5.out], HA1, hz2⟩
                    case measure => simp [intOf]; omega
                  · have HS5' : Hid (seenB ds 5 (k + 1) = true) := HS5.out.trans (by rw [h5d]; rfl)
                    clear HS5
                    have HS5 := HS5'
                    clear HS5'
                    have HR := Hid.mk' (HY.out (by rw [HBB.out, HS4.out, HS5.out]; rfl))
                    have HBA := Hid.mk' (HB.out _ hz2)
                    clear HX HY HS4 HS5 HBB HSk HDk
                    go_wp2
                    go_ret2
                    exact ⟨ret_two9 (b := (4, (k : Int))) HR.out, HBA.out⟩
                · have HS5' : Hid (seenB ds 5 (k + 1) = true) := HS5.out
                  clear HS5
                  have HS5 := HS5'
                  clear HS5'
                  go_region
                  have hz2 := hz1d
                  have HR := Hid.mk' (HY.out (by rw [HBB.out, HS4.out, HS5.out]; rfl))
                  have HBA := Hid.mk' (HB.out _ hz2)
                  clear HX HY HS4 HS5 HBB HSk HDk
                  go_wp2
                  go_ret2
                  exact ⟨ret_two9 (b := (4, (k : Int))) HR.out, HBA.out⟩
            · have HS4' : Hid (seenB ds 4 (k + 1) = true) := HS4.out
              clear HS4
              have HS4 := HS4'
              clear HS4'
              go_region
              have hz1d := hbd2
              go_wp2
              cases s5
              · skip
                go_region_held3 (fun W' => (W'.cell? ⟨w.heap.size, 0, none⟩ = some (.slice (a 0) (t 0).length (c 0)) ∧ W'.cell? ⟨w.heap.size, 1, none⟩ = some (.slice (a 1) (t 1).length (c 1)) ∧ W'.cell? ⟨w.heap.size, 2, none⟩ = some (.slice (a 2) (t 2).length (c 2)) ∧ W'.cell? ⟨w.heap.size, 3, none⟩ = some (.slice (a 3) (t 3).length (c 3)) ∧ W'.cell? ⟨w.heap.size, 4, none⟩ = some (.slice (a 4) (t 4).length (c 4)) ∧ W'.cell? ⟨w.heap.size, 5, none⟩ = some (.slice (a 5) (t 5).length (c 5)) ∧ W'.cell? ⟨w.heap.size, 6, none⟩ = some (.slice (a 6) (t 6).length (c 6)) ∧ W'.cell? ⟨w.heap.size, 7, none⟩ = some (.slice (a 7) (t 7).length (c 7)) ∧ W'.cell? ⟨w.heap.size, 8, none⟩ = some (.slice (a 8) (t 8).length (c 8)) ∧ W'.cell? ⟨w.heap.size, 9, none⟩ = some (.slice (a 9) (t 9).length (c 9)) ∧ W'.cell? ⟨w.heap.size, 10, none⟩ = some (.slice (a 10) (t 10).length (c 10))) ∧ W'.cell? ⟨b, off + k, none⟩ = some (.int .i32 r)) (exact HSk.out _ (by assumption)) (first
                  | (go_at_call 28; refine (HDk.out _ (by assumption)).mono ?_; rintro e wB ⟨rfl, hbwB⟩; have hz2 := HT.out _ _ (by assumption) hbwB))
                cases h5d : d == 5
                · have HS5' : Hid (seenB ds 5 (k + 1) = false) := HS5.out.trans (by rw [h5d]; rfl)
                  clear HS5
                  have HS5 := HS5'
                  clear HS5'
                  have HA1 := Hid.mk' (HX.out (by rw [HBB.out, HS4.out, HS5.out]; rfl))
                  clear HX HY HBB HSk HDk
                  go_wp2
                  go_roundw
                  case rel => exact ⟨k + 1, by omega, by go_num, by rw [HS4.out], by rw [HS5.out], HA1, hz2⟩
                  case measure => simp [intOf]; omega
                · have HS5' : Hid (seenB ds 5 (k + 1) = true) := HS5.out.trans (by rw [h5d]; rfl)
                  clear HS5
                  have HS5 := HS5'
                  clear HS5'
                  have HR := Hid.mk' (HY.out (by rw [HBB.out, HS4.out, HS5.out]; rfl))
                  have HBA := Hid.mk' (HB.out _ hz2)
                  clear HX HY HS4 HS5 HBB HSk HDk
                  go_wp2
                  go_ret2
                  exact ⟨ret_two9 (b := (4, (k : Int))) HR.out, HBA.out⟩
              · have HS5' : Hid (seenB ds 5 (k + 1) = true) := HS5.out
                clear HS5
                have HS5 := HS5'
                clear HS5'
                go_region
                have hz2 := hz1d
                have HR := Hid.mk' (HY.out (by rw [HBB.out, HS4.out, HS5.out]; rfl))
                have HBA := Hid.mk' (HB.out _ hz2)
                clear HX HY HS4 HS5 HBB HSk HDk
                go_wp2
                go_ret2
                exact ⟨ret_two9 (b := (4, (k : Int))) HR.out, HBA.out⟩
          · obtain rfl : k = l.length := by omega
            have HR := Hid.mk' (HZR.out HA.out)
            have HBA := Hid.mk' (HB.out _ hb)
            clear HZ4 HZR HA
            go_wp2
            go_ret2
            exact ⟨ret_two9 (b := (0, 0)) HR.out, HBA.out⟩
  · have hd1 : decide (1 < ds.getD 0 0) = false := decide_eq_false h1
    have HX5 := Hid.mk' (HW5.out h3 h1)
    have HX6 := Hid.mk' (HW6.out h3 h1)
    have HXL := Hid.mk' (HWL.out h3 h1)
    generalize ds.getD 0 0 = d0 at *
    clear HW2 HW3 HW4 HWR HW5 HW6 HWL HS1 h3 h1 HZL
    go_enter Tryd.func10, Tryd.ntmps10
    go_wp2
    go_region_held3 (fun W' => (W'.cell? ⟨w.heap.size, 0, none⟩ = some (.slice (a 0) (t 0).length (c 0)) ∧ W'.cell? ⟨w.heap.size, 1, none⟩ = some (.slice (a 1) (t 1).length (c 1)) ∧ W'.cell? ⟨w.heap.size, 2, none⟩ = some (.slice (a 2) (t 2).length (c 2)) ∧ W'.cell? ⟨w.heap.size, 3, none⟩ = some (.slice (a 3) (t 3).length (c 3)) ∧ W'.cell? ⟨w.heap.size, 4, none⟩ = some (.slice (a 4) (t 4).length (c 4)) ∧ W'.cell? ⟨w.heap.size, 5, none⟩ = some (.slice (a 5) (t 5).length (c 5)) ∧ W'.cell? ⟨w.heap.size, 6, none⟩ = some (.slice (a 6) (t 6).length (c 6)) ∧ W'.cell? ⟨w.heap.size, 7, none⟩ = some (.slice (a 7) (t 7).length (c 7)) ∧ W'.cell? ⟨w.heap.size, 8, none⟩ = some (.slice (a 8) (t 8).length (c 8)) ∧ W'.cell? ⟨w.heap.size, 9, none⟩ = some (.slice (a 9) (t 9).length (c 9)) ∧ W'.cell? ⟨w.heap.size, 10, none⟩ = some (.slice (a 10) (t 10).length (c 10))) ∧ W'.cell? ⟨b, off, none⟩ = some (.int .i32 r0)) (exact HK0.out _ (by assumption)) (first
      | (go_at_call 28; refine (HD0.out _ (by assumption)).mono ?_; rintro e wA ⟨rfl, hbA⟩; have hzA := HT.out _ _ (by assumption) hbA))
    clear HK0 HD0 hbd0 hbA
    have HEA := Hid.mk' (HE9.out _ hzA)
    obtain ⟨x0, x1, x2, x3, x4, x5, x6, x7, x8, x9, x10⟩ := HP.out _ hzA
    have HZA := Hid.mk' hzA
    clear hzA
    go_wp2_with fail
    refine HEA.out.mono ?_
    rintro e wE ⟨rfl, hbE⟩
    have hzE := HT.out _ _ HZA.out hbE
    have hbdE := hzE.drew
    clear HEA HE9 HZA hbE x0 x1 x2 x3 x4 x5 x6 x7 x8 x9 x10
    go_wp2
    go_region_held3 (fun W' => (W'.cell? ⟨w.heap.size, 0, none⟩ = some (.slice (a 0) (t 0).length (c 0)) ∧ W'.cell? ⟨w.heap.size, 1, none⟩ = some (.slice (a 1) (t 1).length (c 1)) ∧ W'.cell? ⟨w.heap.size, 2, none⟩ = some (.slice (a 2) (t 2).length (c 2)) ∧ W'.cell? ⟨w.heap.size, 3, none⟩ = some (.slice (a 3) (t 3).length (c 3)) ∧ W'.cell? ⟨w.heap.size, 4, none⟩ = some (.slice (a 4) (t 4).length (c 4)) ∧ W'.cell? ⟨w.heap.size, 5, none⟩ = some (.slice (a 5) (t 5).length (c 5)) ∧ W'.cell? ⟨w.heap.size, 6, none⟩ = some (.slice (a 6) (t 6).length (c 6)) ∧ W'.cell? ⟨w.heap.size, 7, none⟩ = some (.slice (a 7) (t 7).length (c 7)) ∧ W'.cell? ⟨w.heap.size, 8, none⟩ = some (.slice (a 8) (t 8).length (c 8)) ∧ W'.cell? ⟨w.heap.size, 9, none⟩ = some (.slice (a 9) (t 9).length (c 9)) ∧ W'.cell? ⟨w.heap.size, 10, none⟩ = some (.slice (a 10) (t 10).length (c 10))) ∧ W'.cell? ⟨b, off + E, none⟩ = some (.int .i32 rE)) (exact HKE.out _ (by assumption)) (first
      | (go_at_call 28; refine (HDE.out _ (by assumption)).mono ?_; rintro e wB ⟨rfl, hbB⟩; have hzB := HT.out _ _ (by assumption) hbB))
    clear HKE HDE hbdE hzE hbB
    go_wp2
    go_loopw [13] (fun x wr => ∃ k : Nat, k ≤ l.length ∧ x = .int .i64 k ∧ Hid (∀ j, j < k → isR (ds.getD j 0) = false) ∧ Below W0.heap.size W0 wr) (fun x _ => l.length - (intOf x).toNat)
    case atStart => exact ⟨0, Nat.zero_le _, rfl, fun j hj => by omega, hzB⟩
    case round =>
      obtain ⟨k, hk, rfl, HA, hb⟩ := hrel
      clear hzB
      by_cases hlt : k < l.length
      · skip
        have HSk : Hid (∀ W, Below W0.heap.size W0 W → (W.cell? ⟨w.heap.size, 0, none⟩ = some (.slice (a 0) (t 0).length (c 0)) ∧ W.cell? ⟨w.heap.size, 1, none⟩ = some (.slice (a 1) (t 1).length (c 1)) ∧ W.cell? ⟨w.heap.size, 2, none⟩ = some (.slice (a 2) (t 2).length (c 2)) ∧ W.cell? ⟨w.heap.size, 3, none⟩ = some (.slice (a 3) (t 3).length (c 3)) ∧ W.cell? ⟨w.heap.size, 4, none⟩ = some (.slice (a 4) (t 4).length (c 4)) ∧ W.cell? ⟨w.heap.size, 5, none⟩ = some (.slice (a 5) (t 5).length (c 5)) ∧ W.cell? ⟨w.heap.size, 6, none⟩ = some (.slice (a 6) (t 6).length (c 6)) ∧ W.cell? ⟨w.heap.size, 7, none⟩ = some (.slice (a 7) (t 7).length (c 7)) ∧ W.cell? ⟨w.heap.size, 8, none⟩ = some (.slice (a 8) (t 8).length (c 8)) ∧ W.cell? ⟨w.heap.size, 9, none⟩ = some (.slice (a 9) (t 9).length (c 9)) ∧ W.cell? ⟨w.heap.size, 10, none⟩ = some (.slice (a 10) (t 10).length (c 10))) ∧ W.cell? ⟨b, off + k, none⟩ = some (.int .i32 (l.getD k 0))) := fun W hb => by
          obtain ⟨b', off', e, q⟩ := HV.out W hb k hlt
          injection e with e
          injection e with e1 e2
          subst e1 e2
          exact ⟨HP.out W hb, q⟩
        have HDk : Hid (∀ W, Below W0.heap.size W0 W → _) := fun W hb => HD.out W k hb hlt
        have HX : Hid (isR (ds.getD k 0) = false → ∀ j, j < k + 1 → isR (ds.getD j 0) = false) := fun e j hj => by
          rcases Nat.lt_or_ge j k with q | q
          · exact HA.out j q
          · obtain rfl : j = k := by omega
            exact e
        have HY := Hid.mk' (HX5.out k hlt HA.out)
        have hbd := hb.drew
        have hklz : (k : Int) < (l.length : Int) := by omega
        generalize ds.getD k 0 = d at *
        generalize l.getD k 0 = r at *
        clear HD HV HA HX5 HX6 HXL
        go_wp2
        go_region_held3 (fun W' => (W'.cell? ⟨w.heap.size, 0, none⟩ = some (.slice (a 0) (t 0).length (c 0)) ∧ W'.cell? ⟨w.heap.size, 1, none⟩ = some (.slice (a 1) (t 1).length (c 1)) ∧ W'.cell? ⟨w.heap.size, 2, none⟩ = some (.slice (a 2) (t 2).length (c 2)) ∧ W'.cell? ⟨w.heap.size, 3, none⟩ = some (.slice (a 3) (t 3).length (c 3)) ∧ W'.cell? ⟨w.heap.size, 4, none⟩ = some (.slice (a 4) (t 4).length (c 4)) ∧ W'.cell? ⟨w.heap.size, 5, none⟩ = some (.slice (a 5) (t 5).length (c 5)) ∧ W'.cell? ⟨w.heap.size, 6, none⟩ = some (.slice (a 6) (t 6).length (c 6)) ∧ W'.cell? ⟨w.heap.size, 7, none⟩ = some (.slice (a 7) (t 7).length (c 7)) ∧ W'.cell? ⟨w.heap.size, 8, none⟩ = some (.slice (a 8) (t 8).length (c 8)) ∧ W'.cell? ⟨w.heap.size, 9, none⟩ = some (.slice (a 9) (t 9).length (c 9)) ∧ W'.cell? ⟨w.heap.size, 10, none⟩ = some (.slice (a 10) (t 10).length (c 10))) ∧ W'.cell? ⟨b, off + k, none⟩ = some (.int .i32 r)) (exact HSk.out _ (by assumption)) (first
          | (go_at_call 28; refine (HDk.out _ (by assumption)).mono ?_; rintro e wA ⟨rfl, hbA⟩; have hzA := HT.out _ _ (by assumption) hbA))
        clear HSk HDk hb hbd hbA
        cases hd : isR d
        · have HA1 := Hid.mk' (HX.out hd)
          unfold isR at hd
          rw [Bool.or_eq_false_iff, Bool.or_eq_false_iff] at hd
          obtain ⟨⟨q1, q2⟩, q3⟩ := hd
          clear HX HY
          go_wp2
          go_roundw
          case rel => exact ⟨k + 1, by omega, by go_num, HA1, hzA⟩
          case measure => simp [intOf]; omega
        · have HR := Hid.mk' (HY.out hd)
          have HBA := Hid.mk' (HB.out _ hzA)
          have hd2 : (d == 2) = true ∨ ((d == 2) = false ∧ (d == 3) = true) ∨ ((d == 2) = false ∧ (d == 3) = false ∧ (d == 5) = true) := by
            unfold isR at hd
            cases q1 : d == 2 <;> cases q2 : d == 3 <;> cases q3 : d == 5 <;> simp [q1, q2, q3] at hd ⊢
          clear HX HY hd
          rcases hd2 with q1 | ⟨q1, q2⟩ | ⟨q1, q2, q3⟩
          all_goals
            go_wp2
            go_ret2
            exact ⟨ret_two9 (b := (5, (k : Int))) HR.out, HBA.out⟩
      · obtain rfl : k = l.length := by omega
        have HY6 := Hid.mk' (HX6.out HA.out)
        have HYL := Hid.mk' (HXL.out HA.out)
        have HBA := Hid.mk' (HB.out _ hb)
        clear HX5 HX6 HXL HA hlt hk
        by_cases h1 : z = 1
        · have hz1 : (z != 1) = false := by simpa using h1
          have HR := Hid.mk' (HYL.out (by omega))
          clear HY6 HYL h1
          go_wp2
          go_ret2
          exact ⟨ret_two9 (b := (0, 0)) HR.out, HBA.out⟩
        have hz1 : (z != 1) = true := by simpa using h1
        by_cases h4 : z = 4
        · have hz4 : (z != 4) = false := by simpa using h4
          have HR := Hid.mk' (HYL.out (by omega))
          clear HY6 HYL h1 h4
          go_wp2
          go_ret2
          exact ⟨ret_two9 (b := (0, 0)) HR.out, HBA.out⟩
        have hz4 : (z != 4) = true := by simpa using h4
        have HR := Hid.mk' (HY6.out (by omega))
        clear HY6 HYL h1 h4
        go_wp2
        go_ret2
        exact ⟨ret_two9 (b := (6, (E : Int))) HR.out, HBA.out⟩
end Go.Proofs.YtcklfcoobccgcaaDoor

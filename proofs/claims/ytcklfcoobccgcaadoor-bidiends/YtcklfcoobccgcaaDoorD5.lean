/-
  What is proved here: what the reference's Right, end and Broken of layer 9 answer.
-/
import Derived.Test.YtcklfcoobccgcaaDoorD4
namespace Go.Proofs.YtcklfcoobccgcaaDoor
open Go.RowKit Go.Shelf

set_option maxRecDepth 20000 in
set_option maxHeartbeats 4000000 in
theorem refRight9_any (a : Nat → Option Addr) (c : Nat → Nat) (t : Nat → List Rg) (va : Option Addr) (vcap : Nat) (l : List Int) (w : World) (h : Asked w a c t va vcap l) :
    Calls Tryd.prog 14 #[PV a c t, .slice va l.length vcap] w fun e w' => e = .returned (.bool (rightM (dirsM (t 9) l))) ∧ Below w.heap.size w w' := by
  obtain ⟨W0, hW0, hsz0, hb0, hp⟩ := prop_box w a c t
  have hlen := dirsM_len (t 9) l
  have HD : Hid (∀ W k, Below W0.heap.size W0 W → k < l.length → (Calls Tryd.prog 28 #[PV a c t, .int .i32 (l.getD k 0)] W fun e w' => e = .returned (.int .i64 ((dirsM (t 9) l).getD k 0)) ∧ Below W.heap.size W w')) := fun W k hb hk => by
    rw [dirsM_at hk]
    exact dir_any a c t _ W ((h.tab.below hb0).below hb) (by have := h.ok.len; omega)
  have HV : Hid (∀ W, Below W0.heap.size W0 W → ∀ j, j < l.length → ∃ b off, va = some ⟨b, off, none⟩ ∧ W.cell? ⟨b, off + j, none⟩ = some (.int .i32 (l.getD j 0))) := fun W hb j hj => by
    obtain ⟨va', vc', e, h⟩ := (h.runes.below hb0).below hb
    injection e with e1 e2 e3
    obtain ⟨b, off, e4, hc⟩ := h j hj
    exact ⟨b, off, e1.trans e4, hc⟩
  have HP : Hid (∀ W, Below W0.heap.size W0 W → (W.cell? ⟨w.heap.size, 0, none⟩ = some (.slice (a 0) (t 0).length (c 0)) ∧ W.cell? ⟨w.heap.size, 1, none⟩ = some (.slice (a 1) (t 1).length (c 1)) ∧ W.cell? ⟨w.heap.size, 2, none⟩ = some (.slice (a 2) (t 2).length (c 2)) ∧ W.cell? ⟨w.heap.size, 3, none⟩ = some (.slice (a 3) (t 3).length (c 3)) ∧ W.cell? ⟨w.heap.size, 4, none⟩ = some (.slice (a 4) (t 4).length (c 4)) ∧ W.cell? ⟨w.heap.size, 5, none⟩ = some (.slice (a 5) (t 5).length (c 5)) ∧ W.cell? ⟨w.heap.size, 6, none⟩ = some (.slice (a 6) (t 6).length (c 6)) ∧ W.cell? ⟨w.heap.size, 7, none⟩ = some (.slice (a 7) (t 7).length (c 7)) ∧ W.cell? ⟨w.heap.size, 8, none⟩ = some (.slice (a 8) (t 8).length (c 8)) ∧ W.cell? ⟨w.heap.size, 9, none⟩ = some (.slice (a 9) (t 9).length (c 9)) ∧ W.cell? ⟨w.heap.size, 10, none⟩ = some (.slice (a 10) (t 10).length (c 10)))) := fun W hb => by
    have q := hp.below hb
    exact ⟨q 0 (by omega), q 1 (by omega), q 2 (by omega), q 3 (by omega), q 4 (by omega), q 5 (by omega), q 6 (by omega), q 7 (by omega), q 8 (by omega), q 9 (by omega), q 10 (by omega)⟩
  have HT : Hid (∀ W W', Below W0.heap.size W0 W → Below W.heap.size W W' → Below W0.heap.size W0 W') := fun W W' h1 h2 => h1.trans (h2.mono h1.size)
  have HB : Hid (∀ W, Below W0.heap.size W0 W → Below w.heap.size w W) := fun W hb => hb0.trans (hb.mono hb0.size)
  have HY : Hid (∀ k, k < l.length → isR ((dirsM (t 9) l).getD k 0) = true → rightM (dirsM (t 9) l) = true) := fun k hk h => anyN_at (by omega) h
  have HN : Hid ((∀ k, k < l.length → isR ((dirsM (t 9) l).getD k 0) = false) → rightM (dirsM (t 9) l) = false) := fun h => anyN_none (fun i hi => h i (by omega))
  have hll := h.len
  unfold PV at HD ⊢
  generalize rightM (dirsM (t 9) l) = res at *
  generalize dirsM (t 9) l = ds at *
  clear h hp hb0 hlen
  go_enter Tryd.func14, Tryd.ntmps14
  go_wp2
  go_loopw [5] (fun x wr => ∃ k : Nat, k ≤ l.length ∧ x = .int .i64 k ∧ Hid (∀ j, j < k → isR (ds.getD j 0) = false) ∧ Below W0.heap.size W0 wr) (fun x _ => l.length - (intOf x).toNat)
  case atStart => exact ⟨0, Nat.zero_le _, rfl, fun j hj => by omega, Below.refl _ _⟩
  case round =>
    obtain ⟨k, hk, rfl, HA, hb⟩ := hrel
    by_cases hlt : k < l.length
    · obtain ⟨b, off, rfl, ck⟩ := HV.out wr hb k hlt
      have HSk : Hid (∀ W, Below W0.heap.size W0 W → (W.cell? ⟨w.heap.size, 0, none⟩ = some (.slice (a 0) (t 0).length (c 0)) ∧ W.cell? ⟨w.heap.size, 1, none⟩ = some (.slice (a 1) (t 1).length (c 1)) ∧ W.cell? ⟨w.heap.size, 2, none⟩ = some (.slice (a 2) (t 2).length (c 2)) ∧ W.cell? ⟨w.heap.size, 3, none⟩ = some (.slice (a 3) (t 3).length (c 3)) ∧ W.cell? ⟨w.heap.size, 4, none⟩ = some (.slice (a 4) (t 4).length (c 4)) ∧ W.cell? ⟨w.heap.size, 5, none⟩ = some (.slice (a 5) (t 5).length (c 5)) ∧ W.cell? ⟨w.heap.size, 6, none⟩ = some (.slice (a 6) (t 6).length (c 6)) ∧ W.cell? ⟨w.heap.size, 7, none⟩ = some (.slice (a 7) (t 7).length (c 7)) ∧ W.cell? ⟨w.heap.size, 8, none⟩ = some (.slice (a 8) (t 8).length (c 8)) ∧ W.cell? ⟨w.heap.size, 9, none⟩ = some (.slice (a 9) (t 9).length (c 9)) ∧ W.cell? ⟨w.heap.size, 10, none⟩ = some (.slice (a 10) (t 10).length (c 10))) ∧ W.cell? ⟨b, off + k, none⟩ = some (.int .i32 (l.getD k 0))) := fun W hb => by
        obtain ⟨b', off', e, q⟩ := HV.out W hb k hlt
        injection e with e
        injection e with e1 e2
        subst e1 e2
        exact ⟨HP.out W hb, q⟩
      have HDk : Hid (∀ W, Below W0.heap.size W0 W → _) := fun W hb => HD.out W k hb hlt
      have HX : Hid (isR (ds.getD k 0) = false → ∀ j, j < k + 1 → isR (ds.getD j 0) = false) := fun e j hj => by
        rcases Nat.lt_or_ge j k with q | q
        · exact HA.out j q
        · obtain rfl : j = k := by omega
          exact e
      have HYk := Hid.mk' (HY.out k hlt)
      have hbd := hb.drew
      have hklz : (k : Int) < (l.length : Int) := by omega
      generalize ds.getD k 0 = d at *
      generalize l.getD k 0 = r at *
      clear HD HV HN HY
      go_wp2
      go_region_held3 (fun W' => (W'.cell? ⟨w.heap.size, 0, none⟩ = some (.slice (a 0) (t 0).length (c 0)) ∧ W'.cell? ⟨w.heap.size, 1, none⟩ = some (.slice (a 1) (t 1).length (c 1)) ∧ W'.cell? ⟨w.heap.size, 2, none⟩ = some (.slice (a 2) (t 2).length (c 2)) ∧ W'.cell? ⟨w.heap.size, 3, none⟩ = some (.slice (a 3) (t 3).length (c 3)) ∧ W'.cell? ⟨w.heap.size, 4, none⟩ = some (.slice (a 4) (t 4).length (c 4)) ∧ W'.cell? ⟨w.heap.size, 5, none⟩ = some (.slice (a 5) (t 5).length (c 5)) ∧ W'.cell? ⟨w.heap.size, 6, none⟩ = some (.slice (a 6) (t 6).length (c 6)) ∧ W'.cell? ⟨w.heap.size, 7, none⟩ = some (.slice (a 7) (t 7).length (c 7)) ∧ W'.cell? ⟨w.heap.size, 8, none⟩ = some (.slice (a 8) (t 8).length (c 8)) ∧ W'.cell? ⟨w.heap.size, 9, none⟩ = some (.slice (a 9) (t 9).length (c 9)) ∧ W'.cell? ⟨w.heap.size, 10, none⟩ = some (.slice (a 10) (t 10).length (c 10))) ∧ W'.cell? ⟨b, off + k, none⟩ = some (.int .i32 r)) (exact HSk.out _ (by assumption)) (first
        | (go_at_call 28; refine (HDk.out _ (by assumption)).mono ?_; rintro e wA ⟨rfl, hbA⟩; have hzA := HT.out _ _ (by assumption) hbA))
      clear HSk HDk ck hb hbd hbA
      cases hd : isR d
      · have HA1 := Hid.mk' (HX.out hd)
        unfold isR at hd
        rw [Bool.or_eq_false_iff, Bool.or_eq_false_iff] at hd
        obtain ⟨⟨q1, q2⟩, q3⟩ := hd
        clear HX HYk
        go_wp2
        go_roundw
        case rel => exact ⟨k + 1, by omega, by go_num, HA1, hzA⟩
        case measure => simp [intOf]; omega
      · have HR := Hid.mk' (HYk.out hd)
        have hd2 : (d == 2) = true ∨ ((d == 2) = false ∧ (d == 3) = true) ∨ ((d == 2) = false ∧ (d == 3) = false ∧ (d == 5) = true) := by
          unfold isR at hd
          cases q1 : d == 2 <;> cases q2 : d == 3 <;> cases q3 : d == 5 <;> simp [q1, q2, q3] at hd ⊢
        clear HX HYk hd
        rcases hd2 with q1 | ⟨q1, q2⟩ | ⟨q1, q2, q3⟩
        all_goals
          go_wp2
          go_ret
          exact ⟨ret_bool HR.out.symm, HB.out _ hzA⟩
    · obtain rfl : k = l.length := by omega
      have HR := Hid.mk' (HN.out HA.out)
      go_wp2
      go_ret
      exact ⟨ret_bool HR.out.symm, HB.out wr hb⟩
set_option maxRecDepth 20000 in
set_option maxHeartbeats 4000000 in
theorem refEnd_any (a : Nat → Option Addr) (c : Nat → Nat) (t : Nat → List Rg) (va : Option Addr) (vcap : Nat) (l : List Int) (w : World) (h : Asked w a c t va vcap l) :
    Calls Tryd.prog 29 #[PV a c t, .slice va l.length vcap] w fun e w' => e = .returned (.int .i64 (endM (dirsM (t 9) l))) ∧ Below w.heap.size w w' := by
  obtain ⟨W0, hW0, hsz0, hb0, hp⟩ := prop_box w a c t
  have hlen := dirsM_len (t 9) l
  have HD : Hid (∀ W k, Below W0.heap.size W0 W → k < l.length → (Calls Tryd.prog 28 #[PV a c t, .int .i32 (l.getD k 0)] W fun e w' => e = .returned (.int .i64 ((dirsM (t 9) l).getD k 0)) ∧ Below W.heap.size W w')) := fun W k hb hk => by
    rw [dirsM_at hk]
    exact dir_any a c t _ W ((h.tab.below hb0).below hb) (by have := h.ok.len; omega)
  have HV : Hid (∀ W, Below W0.heap.size W0 W → ∀ j, j < l.length → ∃ b off, va = some ⟨b, off, none⟩ ∧ W.cell? ⟨b, off + j, none⟩ = some (.int .i32 (l.getD j 0))) := fun W hb j hj => by
    obtain ⟨va', vc', e, h⟩ := (h.runes.below hb0).below hb
    injection e with e1 e2 e3
    obtain ⟨b, off, e4, hc⟩ := h j hj
    exact ⟨b, off, e1.trans e4, hc⟩
  have HP : Hid (∀ W, Below W0.heap.size W0 W → (W.cell? ⟨w.heap.size, 0, none⟩ = some (.slice (a 0) (t 0).length (c 0)) ∧ W.cell? ⟨w.heap.size, 1, none⟩ = some (.slice (a 1) (t 1).length (c 1)) ∧ W.cell? ⟨w.heap.size, 2, none⟩ = some (.slice (a 2) (t 2).length (c 2)) ∧ W.cell? ⟨w.heap.size, 3, none⟩ = some (.slice (a 3) (t 3).length (c 3)) ∧ W.cell? ⟨w.heap.size, 4, none⟩ = some (.slice (a 4) (t 4).length (c 4)) ∧ W.cell? ⟨w.heap.size, 5, none⟩ = some (.slice (a 5) (t 5).length (c 5)) ∧ W.cell? ⟨w.heap.size, 6, none⟩ = some (.slice (a 6) (t 6).length (c 6)) ∧ W.cell? ⟨w.heap.size, 7, none⟩ = some (.slice (a 7) (t 7).length (c 7)) ∧ W.cell? ⟨w.heap.size, 8, none⟩ = some (.slice (a 8) (t 8).length (c 8)) ∧ W.cell? ⟨w.heap.size, 9, none⟩ = some (.slice (a 9) (t 9).length (c 9)) ∧ W.cell? ⟨w.heap.size, 10, none⟩ = some (.slice (a 10) (t 10).length (c 10)))) := fun W hb => by
    have q := hp.below hb
    exact ⟨q 0 (by omega), q 1 (by omega), q 2 (by omega), q 3 (by omega), q 4 (by omega), q 5 (by omega), q 6 (by omega), q 7 (by omega), q 8 (by omega), q 9 (by omega), q 10 (by omega)⟩
  have HT : Hid (∀ W W', Below W0.heap.size W0 W → Below W.heap.size W W' → Below W0.heap.size W0 W') := fun W W' h1 h2 => h1.trans (h2.mono h1.size)
  have HB : Hid (∀ W, Below W0.heap.size W0 W → Below w.heap.size w W) := fun W hb => hb0.trans (hb.mono hb0.size)
  have hE : endM (dirsM (t 9) l) = endF (dirsM (t 9) l) l.length := by unfold endM; rw [hlen]
  have hll := h.len
  unfold PV at HD ⊢
  rw [hE]
  generalize dirsM (t 9) l = ds at *
  clear h hp hb0 hlen hE
  go_enter Tryd.func29, Tryd.ntmps29
  go_wp2
  go_loopw [5, 6] (fun y x wr => ∃ (k E : Nat), k ≤ l.length ∧ x = .int .i64 k ∧ y = .int .i64 E ∧ Hid (endF ds k = E) ∧ Below W0.heap.size W0 wr) (fun _ x _ => l.length - (intOf x).toNat)
  case atStart => exact ⟨0, 0, Nat.zero_le _, rfl, rfl, rfl, Below.refl _ _⟩
  case round =>
    obtain ⟨k, E, hk, rfl, rfl, HA, hb⟩ := hrel
    by_cases hlt : k < l.length
    · obtain ⟨b, off, rfl, ck⟩ := HV.out wr hb k hlt
      have HSk : Hid (∀ W, Below W0.heap.size W0 W → (W.cell? ⟨w.heap.size, 0, none⟩ = some (.slice (a 0) (t 0).length (c 0)) ∧ W.cell? ⟨w.heap.size, 1, none⟩ = some (.slice (a 1) (t 1).length (c 1)) ∧ W.cell? ⟨w.heap.size, 2, none⟩ = some (.slice (a 2) (t 2).length (c 2)) ∧ W.cell? ⟨w.heap.size, 3, none⟩ = some (.slice (a 3) (t 3).length (c 3)) ∧ W.cell? ⟨w.heap.size, 4, none⟩ = some (.slice (a 4) (t 4).length (c 4)) ∧ W.cell? ⟨w.heap.size, 5, none⟩ = some (.slice (a 5) (t 5).length (c 5)) ∧ W.cell? ⟨w.heap.size, 6, none⟩ = some (.slice (a 6) (t 6).length (c 6)) ∧ W.cell? ⟨w.heap.size, 7, none⟩ = some (.slice (a 7) (t 7).length (c 7)) ∧ W.cell? ⟨w.heap.size, 8, none⟩ = some (.slice (a 8) (t 8).length (c 8)) ∧ W.cell? ⟨w.heap.size, 9, none⟩ = some (.slice (a 9) (t 9).length (c 9)) ∧ W.cell? ⟨w.heap.size, 10, none⟩ = some (.slice (a 10) (t 10).length (c 10))) ∧ W.cell? ⟨b, off + k, none⟩ = some (.int .i32 (l.getD k 0))) := fun W hb => by
        obtain ⟨b', off', e, q⟩ := HV.out W hb k hlt
        injection e with e
        injection e with e1 e2
        subst e1 e2
        exact ⟨HP.out W hb, q⟩
      have HDk : Hid (∀ W, Below W0.heap.size W0 W → _) := fun W hb => HD.out W k hb hlt
      have HX : Hid (ds.getD k 0 = 10 → endF ds (k + 1) = E) := fun e => (endF_pass e).trans HA.out
      have HY : Hid (ds.getD k 0 ≠ 10 → endF ds (k + 1) = k) := fun e => endF_hit e
      have hbd := hb.drew
      have hklz : (k : Int) < (l.length : Int) := by omega
      generalize ds.getD k 0 = d at *
      generalize l.getD k 0 = r at *
      clear HD HV HA
      go_wp2
      go_region_held3 (fun W' => (W'.cell? ⟨w.heap.size, 0, none⟩ = some (.slice (a 0) (t 0).length (c 0)) ∧ W'.cell? ⟨w.heap.size, 1, none⟩ = some (.slice (a 1) (t 1).length (c 1)) ∧ W'.cell? ⟨w.heap.size, 2, none⟩ = some (.slice (a 2) (t 2).length (c 2)) ∧ W'.cell? ⟨w.heap.size, 3, none⟩ = some (.slice (a 3) (t 3).length (c 3)) ∧ W'.cell? ⟨w.heap.size, 4, none⟩ = some (.slice (a 4) (t 4).length (c 4)) ∧ W'.cell? ⟨w.heap.size, 5, none⟩ = some (.slice (a 5) (t 5).length (c 5)) ∧ W'.cell? ⟨w.heap.size, 6, none⟩ = some (.slice (a 6) (t 6).length (c 6)) ∧ W'.cell? ⟨w.heap.size, 7, none⟩ = some (.slice (a 7) (t 7).length (c 7)) ∧ W'.cell? ⟨w.heap.size, 8, none⟩ = some (.slice (a 8) (t 8).length (c 8)) ∧ W'.cell? ⟨w.heap.size, 9, none⟩ = some (.slice (a 9) (t 9).length (c 9)) ∧ W'.cell? ⟨w.heap.size, 10, none⟩ = some (.slice (a 10) (t 10).length (c 10))) ∧ W'.cell? ⟨b, off + k, none⟩ = some (.int .i32 r)) (exact HSk.out _ (by assumption)) (first
        | (go_at_call 28; refine (HDk.out _ (by assumption)).mono ?_; rintro e wA ⟨rfl, hbA⟩; have hzA := HT.out _ _ (by assumption) hbA))
      clear HSk HDk ck hb hbd hbA
      by_cases hd : d = 10
      · have HA1 := Hid.mk' (HX.out hd)
        have hd' : (d != 10) = false := by simpa using hd
        clear HX HY hd
        go_wp2
        go_roundw
        case rel => exact ⟨k + 1, E, by omega, by go_num, rfl, HA1, hzA⟩
        case measure => simp [intOf]; omega
      · have HA1 := Hid.mk' (HY.out hd)
        have hd' : (d != 10) = true := by simpa using hd
        clear HX HY hd
        go_wp2
        go_roundw
        case rel => exact ⟨k + 1, k, by omega, by go_num, rfl, HA1, hzA⟩
        case measure => simp [intOf]; omega
    · obtain rfl : k = l.length := by omega
      go_wp2
      go_ret
      exact ⟨ret_int (by rw [HA.out]), HB.out wr hb⟩
end Go.Proofs.YtcklfcoobccgcaaDoor

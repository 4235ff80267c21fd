/-
  What is proved here: what slices.symMergeCmpFunc does to a row of runes.
-/
import Derived.Test.YtoceaielclomcaaRRGreatDoorS2
namespace Go.Proofs.YtoceaielclomcaaRRGreatDoor
open Go.RowKit Go.Sort

set_option maxRecDepth 20000 in
set_option maxHeartbeats 8000000 in
theorem symLeft_any (c : Int → Int) (g : Nat) (cb : Array Value) (cf : Int → Int → Int) (hcf : ∀ x y, decide (cf x y < 0) = decide (c x < c y)) (eg : ∀ args w, (callFunc g args).run Tryz.prog w = .ok (.enter g args) w) (w0 : World) (blk off cap : Nat) (L0 : List Int) (R : RL w0 blk off L0) (hcm : CmpL g cb cf blk off L0.length w0) (hs : L0.length ≤ 1073741824)
    (a m b : Nat) (L : List Int) (w : World) (hm : m = a + 1) (hmb : m < b) (hbl : b ≤ L.length) (hl : L.length = L0.length) (h2 : Srt c (a + 1) b L) (S : SL w0 blk off L w) :
    Calls Tryz.prog 164 #[.slice (some ⟨blk, off, none⟩) L0.length cap, .int .i64 a, .int .i64 m, .int .i64 b, .func (.func g) #[] cb] w fun e w' => e = .returned (.tuple #[]) ∧ ∃ L', Bub c a b L L' ∧ Srt c a b L' ∧ SL w0 blk off L' w' := by
  have mixed : Tryz.prog.follows .mixedOrders = true := by kernel_rfl
  have HR := Hid.mk' R
  have HC := Hid.mk' hcm
  have HCF := Hid.mk' hcf
  have HST := Hid.mk' h2
  have HLL := Hid.mk' hl
  have S0 := Hid.mk' S
  obtain ⟨sz, hsz⟩ : ∃ sz, L0.length = sz := ⟨_, rfl⟩
  have hbs : b ≤ sz := by omega
  rw [hsz] at hs ⊢
  have HSZ := Hid.mk' hsz
  have hda : (m : Int) - (a : Int) = 1 := by omega
  have ham : a < m := by omega
  have HM := Hid.mk' hm
  rw [← hm] at HST
  have hal : (a : Int) < (sz : Int) := by omega
  clear R hcm hcf h2 hl S hsz hbl hm
  go_enter Tryz.func164, Tryz.ntmps164
  go_wp2
  go_loopw [10, 11] (fun x y wr => ∃ i j : Nat, x = .int .i64 i ∧ y = .int .i64 j ∧ m ≤ i ∧ i ≤ j ∧ j ≤ b ∧ Hid (∀ k, m ≤ k → k < i → c (L.getD k 0) < c (L.getD a 0)) ∧ Hid (j = b ∨ c (L.getD a 0) ≤ c (L.getD j 0)) ∧ Hid (SL w0 blk off L wr)) (fun x y _ => (intOf y).toNat - (intOf x).toNat)
  case atStart => exact ⟨m, b, rfl, rfl, Nat.le_refl _, by omega, Nat.le_refl _, fun k h1 h2 => by omega, .inl rfl, S0⟩
  case round =>
    clear S0
    obtain ⟨i, j, rfl, rfl, hi, hij, hjb, hA, hB, HS⟩ := hrel
    by_cases hlt : i < j
    · obtain ⟨h, hh⟩ : ∃ h : Nat, ((i : Int) + j) / 2 = h := ⟨(i + j) / 2, by omega⟩
      have hh1 : i ≤ h := by omega
      have hh2 : h < j := by omega
      have hhl : (h : Int) < (sz : Int) := by omega
      have la := HS.out.cl HR.out HLL.out h (by have := HLL.out; have := HSZ.out; omega)
      have lb := HS.out.cl HR.out HLL.out a (by have := HLL.out; have := HSZ.out; omega)
      have HUP : Hid (c (L.getD h 0) < c (L.getD a 0) → ∀ k, m ≤ k → k < h + 1 → c (L.getD k 0) < c (L.getD a 0)) := fun hv k h1 h2 => Int.lt_of_le_of_lt (HST.out.le h1 (by omega) (by omega)) hv
      have HDN : Hid (¬ c (L.getD h 0) < c (L.getD a 0) → h = b ∨ c (L.getD a 0) ≤ c (L.getD h 0)) := fun hv => .inr (by omega)
      generalize hxe : L.getD h 0 = x at la HUP HDN
      have HX := Hid.mk' hxe
      clear hxe
      generalize hy : L.getD a 0 = y at *
      by_cases hcmp : c x < c y
      · have hup := Hid.mk' (HUP.out hcmp)
        clear HUP HDN
        have hd : decide (cf x y < 0) = true := by rw [HCF.out]; exact decide_eq_true hcmp
        have hc := HS.out.cmp HC.out HLL.out x y
        clear hcmp
        go_wp2_with fail
        go_quiet_grown (first | (go_at_fn g; refine Calls.grown_of (hc _ _)))
        have HS2 : Hid (SL w0 blk off L (grow (wr.drewN nq) osq)) := HS.out.grown nq osq
        clear la lb hc HS
        generalize grow (wr.drewN nq) osq = w2 at HS2 ⊢
        clear nq osq
        go_wp2
        go_roundw
        case rel => exact ⟨h + 1, j, by go_num, rfl, by omega, by omega, hjb, hup, hB, HS2⟩
        case measure => simp [intOf]; omega
      · have hdn := Hid.mk' (HDN.out hcmp)
        clear HUP HDN
        have hd : decide (cf x y < 0) = false := by rw [HCF.out]; exact decide_eq_false hcmp
        have hc := HS.out.cmp HC.out HLL.out x y
        clear hcmp
        go_wp2_with fail
        go_quiet_grown (first | (go_at_fn g; refine Calls.grown_of (hc _ _)))
        have HS2 : Hid (SL w0 blk off L (grow (wr.drewN nq) osq)) := HS.out.grown nq osq
        clear la lb hc HS
        generalize grow (wr.drewN nq) osq = w2 at HS2 ⊢
        clear nq osq
        go_wp2
        go_roundw
        case rel => exact ⟨i, h, rfl, rfl, hi, by omega, by omega, hA, (by show _ ∨ _; rw [HX.out]; exact hdn.out), HS2⟩
        case measure => simp [intOf]; omega
    · obtain rfl : i = j := by omega
      obtain ⟨P, x, Y, Z, hL, hP, hY, hBub, hSrt⟩ := ins_left (c := c) (by rw [← HM.out]; exact HST.out) (by rw [← HM.out]; exact hi) hjb (by have := HLL.out; have := HSZ.out; omega) (by rw [← HM.out]; exact hA.out) hB.out
      have HF : Hid (P.length = a ∧ Y.length = i - (a + 1) ∧ L = P ++ [x] ++ Y ++ Z) := ⟨hP, hY, hL⟩
      have HBU := Hid.mk' hBub
      have HSR := Hid.mk' hSrt
      have hd : decide (i < i) = false := by simp
      obtain ⟨i1, hi1⟩ : ∃ i1 : Nat, (i : Int) - 1 = i1 := ⟨i - 1, by omega⟩
      clear hL hP hY hBub hSrt hA hB hd
      go_wp2
      go_loopw [13] (fun z wr => ∃ k : Nat, z = .int .i64 k ∧ a ≤ k ∧ k ≤ i1 ∧ Hid (∃ Y1 Y2, Y = Y1 ++ Y2 ∧ Y1.length = k - a ∧ SL w0 blk off (P ++ Y1 ++ x :: Y2 ++ Z) wr)) (fun z _ => i1 - (intOf z).toNat)
      case atStart => exact ⟨a, rfl, Nat.le_refl _, by omega, [], Y, rfl, by simp, by have := HS.out; rw [HF.out.2.2] at this; simpa using this⟩
      case round =>
        obtain ⟨k, rfl, hk1, hk2, hI⟩ := hrel
        clear HS
        by_cases hlk : k < i1
        · obtain ⟨j, hj⟩ : ∃ j, j = k + 1 := ⟨_, rfl⟩
          obtain ⟨u, v, z, ca, ce, cc, fa, fc, HN⟩ : ∃ (u v : Int) (z : Value), wr.cell? ⟨blk, off + k, none⟩ = some (.int .i32 u) ∧ wr.cell? ⟨blk, off + j, none⟩ = some (.int .i32 v) ∧ (wr.setCell ⟨blk, off + k, none⟩ (.int .i32 v)).cell? ⟨blk, off + j, none⟩ = some z ∧ wr.frozen? ⟨blk, off + k, none⟩ = false ∧ wr.frozen? ⟨blk, off + j, none⟩ = false ∧ Hid (∃ Y1 Y2, Y = Y1 ++ Y2 ∧ Y1.length = k + 1 - a ∧ SL w0 blk off (P ++ Y1 ++ x :: Y2 ++ Z) ((wr.setCell ⟨blk, off + k, none⟩ (.int .i32 v)).setCell ⟨blk, off + j, none⟩ (.int .i32 u)).drew) := by
            obtain ⟨Y1, Y2, rfl, h1, hS⟩ := hI.out
            obtain ⟨q1, q2, q3⟩ := HF.out
            have q4 := HLL.out
            have hm := HM.out
            have q5 := HSZ.out
            rw [q3] at q4
            simp only [List.length_append, List.length_cons, List.length_nil] at q2 q4
            obtain ⟨y, Y2, rfl⟩ : ∃ u U, Y2 = u :: U := by
              cases Y2 with
              | nil => simp at q2; omega
              | cons u U => exact ⟨u, U, rfl⟩
            simp only [List.length_cons] at q2 q4
            have e0 : P ++ Y1 ++ x :: y :: Y2 ++ Z = (P ++ Y1) ++ x :: ([] ++ y :: (Y2 ++ Z)) := by simp
            rw [e0] at hS
            have ei : k = (P ++ Y1).length := by simp; omega
            have ej : j = (P ++ Y1).length + 1 + ([] : List Int).length := by simp; omega
            obtain ⟨g1, g2⟩ := getD_two (P ++ Y1) [] (Y2 ++ Z) x y
            have g3 := swapL_two (P ++ Y1) [] (Y2 ++ Z) x y
            rw [← ej] at g2 g3
            rw [← ei] at g1 g3
            have hL : ((P ++ Y1) ++ x :: ([] ++ y :: (Y2 ++ Z))).length = L0.length := by simp; omega
            have hi' : k < ((P ++ Y1) ++ x :: ([] ++ y :: (Y2 ++ Z))).length := by rw [hL]; omega
            have hj' : j < ((P ++ Y1) ++ x :: ([] ++ y :: (Y2 ++ Z))).length := by rw [hL]; omega
            obtain ⟨z, hz⟩ := hS.two HR.out hL k j hi' hj' (.int .i32 y)
            have c1 := hS.cell HR.out hL k hi'
            have c2 := hS.cell HR.out hL j hj'
            have c3 := hS.swap HR.out k j hi' hj'
            rw [g1] at c1 c3
            rw [g2] at c2 c3
            rw [g3] at c3
            exact ⟨x, y, z, c1, c2, hz, hS.frz HR.out hL k hi', hS.frz HR.out hL j hj', Y1 ++ [y], Y2, by simp, by simp; omega, by simpa using c3⟩
          have pj : ((k : Int) + 1).toNat = j := by omega
          have kl : (k : Int) < (sz : Int) := by omega
          have kl1 : (k : Int) + 1 < (sz : Int) := by omega
          have rj : IntKind.i64.wrap ((k : Int) + 1) = (k : Int) + 1 := by rw [IntKind.wrap_i64]; omega
          have p0 : (0 : Int) ≤ (k : Int) + 1 := by omega
          have hlkz : (k : Int) < (i1 : Int) := by omega
          clear hI hj
          go_wp2
          go_region
          generalize ((wr.setCell ⟨blk, off + k, none⟩ (.int .i32 v)).setCell ⟨blk, off + j, none⟩ (.int .i32 u)).drew = w3 at HN ⊢
          clear ca ce cc fa fc pj kl kl1 rj p0
          go_wp2
          go_roundw
          case rel => exact ⟨k + 1, by go_num, by omega, by omega, HN⟩
          case measure => simp [intOf]; omega
        · obtain rfl : k = i1 := by omega
          go_wp2
          (try simp only [Exit.inBlock, Exit.then]); refine bodyPost_ret (results_none rfl _ _ _) rfl ?_
          refine ⟨rfl, _, HBU.out, HSR.out, ?_⟩
          obtain ⟨Y1, Y2, rfl, h1, hS⟩ := hI.out
          obtain ⟨q1, q2, q3⟩ := HF.out
          simp only [List.length_append] at q2
          have hm := HM.out
          obtain rfl : Y2 = [] := List.length_eq_zero_iff.1 (by omega)
          simpa using hS
set_option maxRecDepth 20000 in
set_option maxHeartbeats 8000000 in
theorem symRight_any (c : Int → Int) (g : Nat) (cb : Array Value) (cf : Int → Int → Int) (hcf : ∀ x y, decide (cf x y < 0) = decide (c x < c y)) (eg : ∀ args w, (callFunc g args).run Tryz.prog w = .ok (.enter g args) w) (w0 : World) (blk off cap : Nat) (L0 : List Int) (R : RL w0 blk off L0) (hcm : CmpL g cb cf blk off L0.length w0) (hs : L0.length ≤ 1073741824)
    (a m b : Nat) (L : List Int) (w : World) (ha1 : a + 1 < m) (hb : b = m + 1) (hbl : b ≤ L.length) (hl : L.length = L0.length) (h1 : Srt c a m L) (S : SL w0 blk off L w) :
    Calls Tryz.prog 164 #[.slice (some ⟨blk, off, none⟩) L0.length cap, .int .i64 a, .int .i64 m, .int .i64 b, .func (.func g) #[] cb] w fun e w' => e = .returned (.tuple #[]) ∧ ∃ L', Bub c a b L L' ∧ Srt c a b L' ∧ SL w0 blk off L' w' := by
  have mixed : Tryz.prog.follows .mixedOrders = true := by kernel_rfl
  have HR := Hid.mk' R
  have HC := Hid.mk' hcm
  have HCF := Hid.mk' hcf
  have HST := Hid.mk' h1
  have HLL := Hid.mk' hl
  have S0 := Hid.mk' S
  obtain ⟨sz, hsz⟩ : ∃ sz, L0.length = sz := ⟨_, rfl⟩
  have hms : m < sz := by omega
  rw [hsz] at hs ⊢
  have HSZ := Hid.mk' hsz
  have hdb : (b : Int) - (m : Int) = 1 := by omega
  obtain ⟨da, hda⟩ : ∃ da : Nat, (m : Int) - (a : Int) = da := ⟨m - a, by omega⟩
  have hd1 : ((da : Int) == 1) = false := by simp; omega
  have hml : (m : Int) < (sz : Int) := by omega
  have ham : a < m := by omega
  have hdaw : da ≤ 1073741824 := by omega
  have HM := Hid.mk' hb
  clear R hcm hcf h1 hl S hsz hbl hb ha1
  go_enter Tryz.func164, Tryz.ntmps164
  go_wp2
  go_loopw [14, 15] (fun x y wr => ∃ i j : Nat, x = .int .i64 i ∧ y = .int .i64 j ∧ a ≤ i ∧ i ≤ j ∧ j ≤ m ∧ Hid (j = m ∨ c (L.getD m 0) < c (L.getD j 0)) ∧ Hid (i = a ∨ c (L.getD (i - 1) 0) ≤ c (L.getD m 0)) ∧ Hid (SL w0 blk off L wr)) (fun x y _ => (intOf y).toNat - (intOf x).toNat)
  case atStart => exact ⟨a, m, rfl, rfl, Nat.le_refl _, by omega, Nat.le_refl _, .inl rfl, .inl rfl, S0⟩
  case round =>
    clear S0
    obtain ⟨i, j, rfl, rfl, hi, hij, hjm, hA, hB, HS⟩ := hrel
    by_cases hlt : i < j
    · obtain ⟨h, hh⟩ : ∃ h : Nat, ((i : Int) + j) / 2 = h := ⟨(i + j) / 2, by omega⟩
      have hh1 : i ≤ h := by omega
      have hh2 : h < j := by omega
      have hhl : (h : Int) < (sz : Int) := by omega
      have la := HS.out.cl HR.out HLL.out m (by have := HLL.out; have := HSZ.out; omega)
      have lb := HS.out.cl HR.out HLL.out h (by have := HLL.out; have := HSZ.out; omega)
      have HUP : Hid (¬ c (L.getD m 0) < c (L.getD h 0) → h + 1 = a ∨ c (L.getD (h + 1 - 1) 0) ≤ c (L.getD m 0)) := fun hv => .inr (by rw [Nat.add_sub_cancel]; omega)
      have HDN : Hid (c (L.getD m 0) < c (L.getD h 0) → h = m ∨ c (L.getD m 0) < c (L.getD h 0)) := fun hv => .inr hv
      generalize hxe : L.getD m 0 = x at la
      generalize hye : L.getD h 0 = y at lb
      have HX := Hid.mk' hxe
      have HY := Hid.mk' hye
      clear hxe hye
      by_cases hcmp : c x < c y
      · have hdn := Hid.mk' (HDN.out (by rw [HX.out, HY.out]; exact hcmp))
        clear HUP HDN
        have hd : decide (cf x y < 0) = true := by rw [HCF.out]; exact decide_eq_true hcmp
        have hc := HS.out.cmp HC.out HLL.out x y
        clear hcmp
        go_wp2_with fail
        go_quiet_grown (first | (go_at_fn g; refine Calls.grown_of (hc _ _)))
        have HS2 : Hid (SL w0 blk off L (grow (wr.drewN nq) osq)) := HS.out.grown nq osq
        clear la lb hc HS
        generalize grow (wr.drewN nq) osq = w2 at HS2 ⊢
        clear nq osq
        go_wp2
        go_roundw
        case rel => exact ⟨i, h, rfl, rfl, hi, by omega, by omega, by rw [← HX.out]; exact hdn, by rw [← HX.out]; exact hB, HS2⟩
        case measure => simp [intOf]; omega
      · have hup := Hid.mk' (HUP.out (by rw [HX.out, HY.out]; exact hcmp))
        clear HUP HDN
        have hd : decide (cf x y < 0) = false := by rw [HCF.out]; exact decide_eq_false hcmp
        have hc := HS.out.cmp HC.out HLL.out x y
        clear hcmp
        go_wp2_with fail
        go_quiet_grown (first | (go_at_fn g; refine Calls.grown_of (hc _ _)))
        have HS2 : Hid (SL w0 blk off L (grow (wr.drewN nq) osq)) := HS.out.grown nq osq
        clear la lb hc HS
        generalize grow (wr.drewN nq) osq = w2 at HS2 ⊢
        clear nq osq
        go_wp2
        go_roundw
        case rel => exact ⟨h + 1, j, by go_num, rfl, by omega, by omega, hjm, by rw [← HX.out]; exact hA, by rw [← HX.out]; exact hup, HS2⟩
        case measure => simp [intOf]; omega
    · obtain rfl : i = j := by omega
      obtain ⟨P, X, y, Z, hL, hP, hX, hBub, hSrt⟩ := ins_right (c := c) HST.out hi hjm (by have := HLL.out; have := HSZ.out; omega) hA.out hB.out
      have HF : Hid (P.length = i ∧ X.length = m - i ∧ L = P ++ X ++ [y] ++ Z) := ⟨hP, hX, hL⟩
      have HBU : Hid (Bub c a b L (P ++ [y] ++ X ++ Z)) := by rw [HM.out]; exact hBub
      have HSR : Hid (Srt c a b (P ++ [y] ++ X ++ Z)) := by rw [HM.out]; exact hSrt
      clear hL hP hX hBub hSrt hA hB
      go_wp2
      go_loopw [17] (fun z wr => ∃ k : Nat, z = .int .i64 k ∧ i ≤ k ∧ k ≤ m ∧ Hid (∃ X1 X2, X = X1 ++ X2 ∧ X1.length = k - i ∧ SL w0 blk off (P ++ X1 ++ y :: X2 ++ Z) wr)) (fun z _ => (intOf z).toNat - i)
      case atStart => exact ⟨m, rfl, hjm, Nat.le_refl _, X, [], by simp, HF.out.2.1, by have := HS.out; rw [HF.out.2.2] at this; simpa using this⟩
      case round =>
        obtain ⟨k, rfl, hk1, hk2, hI⟩ := hrel
        clear HS
        by_cases hlk : i < k
        · obtain ⟨j, hj⟩ : ∃ j : Nat, (k : Int) - 1 = j := ⟨k - 1, by omega⟩
          obtain ⟨u, v, z, ca, ce, cc, fa, fc, HN⟩ : ∃ (u v : Int) (z : Value), wr.cell? ⟨blk, off + k, none⟩ = some (.int .i32 u) ∧ wr.cell? ⟨blk, off + j, none⟩ = some (.int .i32 v) ∧ (wr.setCell ⟨blk, off + k, none⟩ (.int .i32 v)).cell? ⟨blk, off + j, none⟩ = some z ∧ wr.frozen? ⟨blk, off + k, none⟩ = false ∧ wr.frozen? ⟨blk, off + j, none⟩ = false ∧ Hid (∃ X1 X2, X = X1 ++ X2 ∧ X1.length = j - i ∧ SL w0 blk off (P ++ X1 ++ y :: X2 ++ Z) ((wr.setCell ⟨blk, off + k, none⟩ (.int .i32 v)).setCell ⟨blk, off + j, none⟩ (.int .i32 u)).drew) := by
            obtain ⟨X1, X2, rfl, h1, hS⟩ := hI.out
            obtain ⟨q1, q2, q3⟩ := HF.out
            have q4 := HLL.out
            have q5 := HSZ.out
            rw [q3] at q4
            simp only [List.length_append, List.length_cons, List.length_nil] at q2 q4
            obtain ⟨X1, x, rfl⟩ : ∃ U u, X1 = U ++ [u] := by
              rcases List.eq_nil_or_concat X1 with rfl | ⟨U, u, rfl⟩
              · simp at h1; omega
              · exact ⟨U, u, by simp⟩
            simp only [List.length_append, List.length_cons, List.length_nil] at h1 q2 q4
            have e0 : P ++ (X1 ++ [x]) ++ y :: X2 ++ Z = (P ++ X1) ++ x :: ([] ++ y :: (X2 ++ Z)) := by simp
            rw [e0] at hS
            have ei : j = (P ++ X1).length := by simp; omega
            have ej : k = (P ++ X1).length + 1 + ([] : List Int).length := by simp; omega
            obtain ⟨g1, g2⟩ := getD_two (P ++ X1) [] (X2 ++ Z) x y
            have g3 := swapL_two (P ++ X1) [] (X2 ++ Z) x y
            rw [← ej] at g2 g3
            rw [← ei] at g1 g3
            have hL : ((P ++ X1) ++ x :: ([] ++ y :: (X2 ++ Z))).length = L0.length := by simp; omega
            have hi' : j < ((P ++ X1) ++ x :: ([] ++ y :: (X2 ++ Z))).length := by rw [hL]; omega
            have hj' : k < ((P ++ X1) ++ x :: ([] ++ y :: (X2 ++ Z))).length := by rw [hL]; omega
            obtain ⟨z, hz⟩ := hS.two HR.out hL k j hj' hi' (.int .i32 x)
            have c1 := hS.cell HR.out hL k hj'
            have c2 := hS.cell HR.out hL j hi'
            have c3 := hS.swap HR.out k j hj' hi'
            rw [g2] at c1 c3
            rw [g1] at c2 c3
            have g4 : swapL ((P ++ X1) ++ x :: ([] ++ y :: (X2 ++ Z))) k j = swapL ((P ++ X1) ++ x :: ([] ++ y :: (X2 ++ Z))) j k := by
              unfold swapL
              rw [List.set_comm _ _ (by omega : k ≠ j)]
            rw [g4, g3] at c3
            exact ⟨y, x, z, c1, c2, hz, hS.frz HR.out hL k hj', hS.frz HR.out hL j hi', X1, x :: X2, by simp, by omega, by simpa using c3⟩
          have kl : (k : Int) < (sz : Int) := by omega
          have jl : (j : Int) < (sz : Int) := by omega
          have hlkz : (i : Int) < (k : Int) := by omega
          clear hI
          go_wp2
          go_region
          generalize ((wr.setCell ⟨blk, off + k, none⟩ (.int .i32 v)).setCell ⟨blk, off + j, none⟩ (.int .i32 u)).drew = w3 at HN ⊢
          clear ca ce cc fa fc
          go_wp2
          go_roundw
          case rel => exact ⟨j, rfl, by omega, by omega, HN⟩
          case measure => simp [intOf]; omega
        · obtain rfl : k = i := by omega
          go_wp2
          (try simp only [Exit.inBlock, Exit.then]); refine bodyPost_ret (results_none rfl _ _ _) rfl ?_
          refine ⟨rfl, _, HBU.out, HSR.out, ?_⟩
          obtain ⟨X1, X2, rfl, h1, hS⟩ := hI.out
          obtain rfl : X1 = [] := List.length_eq_zero_iff.1 (by omega)
          simpa using hS
end Go.Proofs.YtoceaielclomcaaRRGreatDoor

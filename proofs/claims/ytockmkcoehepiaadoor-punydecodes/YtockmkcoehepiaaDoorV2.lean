/-
  What is proved here: what the document's Decode answers at texts of plain bytes.
-/
import Derived.Test.YtockmkcoehepiaaDoorV1
import Derived.Lib.AppendZerosOnto
namespace Go.Proofs.YtockmkcoehepiaaDoor
open Go.RowKit

theorem own_cap {B : Nat} {e : TypeId} {v : Value} {n : Nat} {xs : List Value} {w : World} (h : w.ownsRow B e 1 v n xs) : (v = .slice none 0 0 ∧ n = 0) ∨ ∃ g cap, v = .slice (some ⟨g, 0, none⟩) n cap ∧ n ≤ cap ∧ cap ≤ maxLen := by
  rcases h.2 with h0 | ⟨g, cap, cur, rfl, hB, hg, hn, hm, _⟩
  · exact .inl h0
  · exact .inr ⟨g, cap, rfl, hn, hm⟩
/-- cells of a part of a row of one's own -/
theorem own_part {B g n cap : Nat} {e : TypeId} {t : List Int} {w : World} (h : w.ownsRow B e 1 (.slice (some ⟨g, 0, none⟩) n cap) n (cellsOf t)) (o : Nat) (t' : List Int) (ht : ∀ j, j < t'.length → o + j < n ∧ t[o + j]? = t'[j]?) : ∀ j u, (cellsOf t')[j]? = some u → w.cell? ((⟨g, o, none⟩ : Addr).add j) = some u := by
  intro j u hu
  have hj : j < t'.length := by
    have := (List.getElem?_eq_some_iff.1 hu).1
    rwa [cellsOf_len] at this
  obtain ⟨h1, h2⟩ := ht j hj
  rw [Addr.add_lit, h.cellAt (o + j) (by omega)]
  unfold cellsOf at hu ⊢
  rw [List.getElem?_map, h2, ← List.getElem?_map]
  exact hu
set_option maxRecDepth 100000 in
set_option maxHeartbeats 4000000 in
theorem refDecode_run (s : ByteArray) (w : World) (hs : s.size ≤ 120) (hh : highAt s = -1) :
    Calls Tryd.prog 28 #[.string s] w fun e w' => RefIs w w' e (decM (bytesM s) (fromOf s)) := by
  obtain ⟨i0, hi, hz0, hz1, hz2⟩ := info_parts Tryd.infoRune
  have HP : Hid (∀ j (h : j < s.size), (s[j]'h).toNat < 128) := by
    rcases high_spec s s.size 0 (by omega) with ⟨-, hn⟩ | ⟨i, e, -⟩
    · exact fun j h => hn j (Nat.zero_le _) h
    · unfold highAt at hh; omega
  have HF : Hid (∀ f, IsFromK (bytesM s) s.size f → f = fromOf s) := fun f hf => from_unique (bs := bytesM s) ⟨by rw [bytes_len]; exact hf.1, hf.2.1, fun i h0 h1 h2 => hf.2.2 i h0 h1 (by rw [bytes_len] at h2; omega)⟩ (from_is s)
  have hFl : fromOf s ≤ s.size := by have := (from_is s).1; rw [bytes_len] at this; exact this
  have hF1 : fromOf s = 0 ∨ 2 ≤ fromOf s := by
    rcases (from_is s).2.1 with h | ⟨h, -⟩
    · exact .inl h
    · exact .inr h
  have HF1 := Hid.mk' hF1
  have HAT : Hid (∀ k (h : k < s.size), (bytesM s).getD k 0 = ((s[k]'h).toNat : Int)) := fun k h => bytes_at s k h
  have HTK : Hid (∀ k (h : k < s.size), (bytesM s).take (k + 1) = (bytesM s).take k ++ [((s[k]'h).toNat : Int)]) := fun k h => by
    show _ = _
    have h' : k < (bytesM s).length := by rw [bytes_len]; exact h
    rw [List.take_succ_eq_append_getElem h']
    have := bytes_at s k h
    rw [List.getD_eq_getElem?_getD, List.getElem?_eq_getElem h'] at this
    simp only [Option.getD_some] at this
    rw [this]
  have HTL : Hid (∀ k, k ≤ s.size → ((bytesM s).take k).length = k) := fun k hk => by show _ = _; rw [List.length_take, bytes_len]; omega
  have HR0 : Hid (AtD s s.size ⟨128, 0, 72, true, (bytesM s).take (fromOf s - 1)⟩ (fromOf s) 0 0 1 (decM (bytesM s) (fromOf s))) := by
    refine ⟨by omega, .inl ⟨rfl, rfl, rfl, ?_⟩⟩
    show _ = decR (bytesM s).length _ _ _
    rw [bytes_len]
  have HST : Hid (∀ g st at1 k d u (R : DecR), AtD s g st at1 k d u R → ∀ hlt : at1 < s.size, _) := fun g st at1 k d u R h hlt => atD_step h hlt
  have HEN : Hid (∀ g st k d u (R : DecR), AtD s g st s.size k d u R → R = if 0 < k then DecR.bad s.size 2 else .ok st.out) := fun g st k d u R h => atD_end h
  have HVA : Hid (∀ (b : Int) (W : World), 0 ≤ b → b < 256 → _) := fun b W h0 h1 => refValue_any b W h0 h1
  have HBD : Hid (∀ (k bias : Int) (W : World), 0 ≤ k → k ≤ 2147483647 → 0 ≤ bias → bias ≤ 1000 → _) := fun k bias W h0 h1 h2 h3 => refBound_any k bias W h0 h1 h2 h3
  have HRI : Hid (∀ (r : Int) (W : World), _) := fun r W => refRight_any r W
  have HBI : Hid (∀ (d m : Int) (f : Bool) (W : World), 0 ≤ d → d ≤ 2147483647 → 1 ≤ m → m ≤ 2147483647 → Calls Tryd.prog 30 #[.int .i64 d, .int .i64 m, .bool f] W fun e w' => e = .returned (.int .i64 (biasM d m f)) ∧ W = w') := fun d m f W h0 h1 h2 h3 => by
    have := refBias_any d m f W
    rw [numC_in h0 h1, manyC_in h2 h3] at this
    exact this
  generalize decM (bytesM s) (fromOf s) = R at *
  clear hh hF1
  go_enter Tryd.func28, Tryd.ntmps28
  go_wp2
  go_loop [5, 6] (fun x y => ∃ f k : Nat, x = .int .i64 f ∧ y = .int .i64 k ∧ k ≤ s.size ∧ f ≤ k ∧ Hid (IsFromK (bytesM s) k f)) (fun _ y => s.size - (intOf y).toNat)
  case atStart => exact ⟨0, 0, rfl, rfl, Nat.zero_le _, Nat.le_refl _, Nat.zero_le _, .inl rfl, fun i h0 h1 h2 => by omega⟩
  case round =>
    obtain ⟨f, k, rfl, rfl, hk, hfk, HI⟩ := hrel
    by_cases hlt : k < s.size
    · have hb := HP.out k hlt
      have ha := HAT.out k hlt
      have hlz : (k : Int) < (s.size : Int) := by omega
      have hbz : ((s[k]'hlt).toNat : Int) ≤ 127 := by omega
      have hbd : decide (127 < ((s[k]'hlt).toNat : Int)) = false := decide_eq_false (by omega)
      by_cases h45 : ((s[k]'hlt).toNat : Int) = 45
      · have hq : (((s[k]'hlt).toNat : Int) == 45) = true := by simpa using h45
        by_cases hk0 : 0 < k
        · have hk0d : decide (0 < (k : Int)) = true := decide_eq_true (by omega)
          have HN : Hid (IsFromK (bytesM s) (k + 1) (k + 1)) := fromK_hit HI.out (by omega) (by rw [ha]; exact h45)
          clear h45 ha HI
          go_wp2
          go_round
          case rel => exact ⟨k + 1, k + 1, by go_num, by go_num, by omega, by omega, HN⟩
          case measure => simp [intOf]; omega
        · have hk0d : decide (0 < (k : Int)) = false := decide_eq_false (by omega)
          obtain rfl : k = 0 := by omega
          have HN : Hid (IsFromK (bytesM s) 1 f) := fromK_zero HI.out
          clear h45 ha HI
          go_wp2
          go_round
          case rel => exact ⟨f, 1, rfl, by go_num, by omega, by omega, HN⟩
          case measure => simp [intOf]; omega
      · have hq : (((s[k]'hlt).toNat : Int) == 45) = false := by simpa using h45
        have HN : Hid (IsFromK (bytesM s) (k + 1) f) := fromK_miss HI.out (by rw [ha]; exact h45)
        clear h45 ha HI
        go_wp2
        go_round
        case rel => exact ⟨f, k + 1, rfl, by go_num, by omega, by omega, HN⟩
        case measure => simp [intOf]; omega
    · obtain rfl : k = s.size := by omega
      have hlz : decide ((s.size : Int) < (s.size : Int)) = false := by simp
      have hfe := HF.out f HI.out
      subst hfe
      clear HI HF
      generalize fromOf s = F at *
      go_wp2
      go_loopw [7, 8] (fun v y wr => ∃ (j : Nat) (v0 : Value), v = v0 ∧ y = .int .i64 j ∧ j ≤ F - 1 ∧ wr.ownsRow w.heap.size 21 1 v0 j (cellsOf ((bytesM s).take j)) ∧ Hid (Below w.heap.size w wr)) (fun _ y _ => F - (intOf y).toNat)
      case atStart => exact ⟨0, _, rfl, rfl, Nat.zero_le _, World.ownsRow_nil _ _ _ _, Below.refl _ _⟩
      case round =>
        obtain ⟨j, v0, hv0, rfl, hj, hown, HB⟩ := hrel
        subst hv0
        have hbs := HB.out.size
        by_cases hlt2 : j + 1 < F
        · have hjs : j < s.size := by omega
          have hb := HP.out j hjs
          have hjz : (j : Int) + 1 < (F : Int) := by omega
          have hjz2 : (j : Int) < (s.size : Int) := by omega
          have HN := Hid.mk' (HTK.out j hjs)
          have hw32 : IntKind.i32.wrap ((s[j]'hjs).toNat : Int) = ((s[j]'hjs).toNat : Int) := by rw [IntKind.wrap_i32]; omega
          go_wp2_with (at_builtin; refine wpList_append_own _ rfl _ _ 24 rfl w.heap.size 21 i0 (.int .i32 0) 1 4 Tryd.underlying24 hi hz0 hz1 hz2 rfl (by decide) _ _ _ rfl (hown.alloc _) ⟨wr.heap.size, 0, none⟩ 1 1 ([((s[j]'hjs).toNat : Int)].map (Value.int .i32)) rfl rfl (cells_new _ _ _) (ints_one _ _) (by unfold maxLen; omega) (by omega) (by simp; omega) ?_; intro v' w2 hown' hgrow _)
          have HB2 : Hid (Below w.heap.size w w2) := (HB.out.alloc hbs _).grown hgrow (by simp; omega) (fun j hj => (hown.lt j hj).1)
          have hown2 : w2.ownsRow w.heap.size 21 1 v' (j + 1) (cellsOf ((bytesM s).take (j + 1))) := by
            rw [HN.out]
            unfold cellsOf
            rw [List.map_append]
            exact hown'
          clear hown hown' hgrow
          go_roundw
          case rel => exact ⟨j + 1, _, rfl, by go_num, by omega, hown2, HB2⟩
          case measure => simp [intOf]; omega
        · have hjd : decide ((j : Int) + 1 < (F : Int)) = false := decide_eq_false (by omega)
          obtain rfl : j = F - 1 := by omega
          have hlen0 := HTL.out (F - 1) (by omega)
          go_wp2
          go_loopw [7, 9, 10, 11, 12, 13, 14, 15, 16] (fun v x9 x10 x11 x12 x13 x14 x15 x16 wr => ∃ (n i bias : Int) (first : Bool) (out : List Int) (d u : Int) (k at1 g : Nat), x9 = .int .i64 bias ∧ x10 = .bool first ∧ x11 = .int .i64 n ∧ x12 = .int .i64 i ∧ x13 = .int .i64 d ∧ x14 = .int .i64 u ∧ x15 = .int .i64 k ∧ x16 = .int .i64 at1 ∧ at1 ≤ s.size ∧ k ≤ at1 ∧ out.length ≤ at1 ∧ 0 ≤ n ∧ n ≤ 1114111 ∧ 0 ≤ i ∧ i ≤ out.length ∧ 0 ≤ bias ∧ bias ≤ 215 ∧ 0 ≤ d ∧ d ≤ 2147483647 ∧ 1 ≤ u ∧ u ≤ 75161927645 ∧ Hid (wr.ownsRow w.heap.size 21 1 v out.length (cellsOf out)) ∧ Hid (AtD s g ⟨n, i, bias, first, out⟩ at1 k d u R) ∧ Hid (Below w.heap.size w wr)) (fun _ _ _ _ _ _ _ _ x16 _ => s.size - (intOf x16).toNat)
          case atStart => exact ⟨128, 0, 72, true, (bytesM s).take (F - 1), 0, 1, 0, F, s.size, rfl, rfl, rfl, rfl, rfl, rfl, rfl, rfl, hFl, Nat.zero_le _, by omega, by omega, by omega, by omega, by omega, by omega, by omega, by omega, by omega, by omega, by omega, (by rw [hlen0]; exact hown), HR0, HB⟩
          case round =>
            clear hown HR0 HB hlen0
            obtain ⟨n, i, bias, first, out, d, u, k, at1, g, rfl, rfl, rfl, rfl, rfl, rfl, rfl, rfl, hat, hka, hol, hn0, hn1, hi0, hi1, hb0, hb1, hd0, hd1, hu0, hu1, HOW, HAD, HB3⟩ := hrel
            by_cases hlt3 : at1 < s.size
            · obtain ⟨g', hg', hR⟩ := HST.out g _ at1 k d u R HAD.out hlt3
              have HR := Hid.mk' hR
              clear hR HAD
              have hbyte := HP.out at1 hlt3
              have HV := Hid.mk' (HVA.out ((s[at1]'hlt3).toNat : Int) wr (by omega) (by omega))
              have hvb := val_bd ((s[at1]'hlt3).toNat : Int)
              have HBN := Hid.mk' (HBD.out (k : Int) bias wr (by omega) (by omega) hb0 (by omega))
              have ht := bnd_bd (k : Int) bias
              simp only at HR
              generalize valM ((s[at1]'hlt3).toNat : Int) = y at *
              generalize bndM (k : Int) bias = t at *
              obtain ⟨hy0, hy1⟩ := hvb
              obtain ⟨ht1, ht2⟩ := ht
              have hlz3 : (at1 : Int) < (s.size : Int) := by omega
              by_cases h1 : y < 0
              · rw [if_pos h1] at HR
                have HX : Hid (RefIs w wr (.returned (.tuple #[.slice none 0 0, .int .i64 (at1 : Int), .int .i64 15])) R) := by
                  rw [← HR.out]
                  exact ⟨rfl, HB3.out⟩
                clear HR HBN HST HEN
                go_wp2_with fail
                refine HV.out.mono ?_
                rintro e w5 ⟨rfl, rfl⟩
                go_wp2
                go_ret3
                exact HX.out
              · rw [if_neg h1] at HR
                have h1d : decide (y < 0) = false := decide_eq_false h1
                have hp0 : 0 ≤ y * u := Int.mul_nonneg (by omega) (by omega)
                have hp1 : y * u ≤ 35 * 75161927645 := by
                  have e1 : y * u ≤ 35 * u := Int.mul_le_mul_of_nonneg_right hy1 (by omega)
                  omega
                by_cases h2 : 2147483647 < d + y * u
                · rw [if_pos h2] at HR
                  have HX : Hid (RefIs w wr (.returned (.tuple #[.slice none 0 0, .int .i64 (at1 : Int), .int .i64 3])) R) := by
                    rw [← HR.out]
                    exact ⟨rfl, HB3.out⟩
                  clear HR HBN HST HEN
                  go_wp2_with fail
                  refine HV.out.mono ?_
                  rintro e w5 ⟨rfl, rfl⟩
                  go_wp2
                  go_ret3
                  exact HX.out
                · rw [if_neg h2] at HR
                  have h2d : decide (2147483647 < d + y * u) = false := decide_eq_false h2
                  by_cases h3 : y < t
                  · rw [if_pos h3, contM_ok] at HR
                    have h3d : decide (t ≤ y) = false := decide_eq_false (by omega)
                    have h3z : y < t := h3
                    have hDge : 0 ≤ d + y * u := by omega
                    obtain ⟨D, hD⟩ : ∃ D, d + y * u = D := ⟨_, rfl⟩
                    rw [hD] at HR h2 h2d hDge
                    have q0 : 0 ≤ (i + D) / ((out.length : Int) + 1) := Int.ediv_nonneg (by omega) (by omega)
                    have q1 : (i + D) / ((out.length : Int) + 1) ≤ i + D := Int.ediv_le_self _ (by omega)
                    have e2 := Int.emod_nonneg (i + D) (show ((out.length : Int) + 1) ≠ 0 by omega)
                    have e3 := Int.emod_lt_of_pos (i + D) (show 0 < (out.length : Int) + 1 by omega)
                    have HRD : Hid (rD ⟨n, i, bias, first, out⟩ D = n + (i + D) / ((out.length : Int) + 1)) := by show n + (D + i) / _ = _; rw [Int.add_comm D i]
                    have HGD : Hid (goD ⟨n, i, bias, first, out⟩ D = ⟨n + (i + D) / ((out.length : Int) + 1), (i + D) % ((out.length : Int) + 1) + 1, biasM D ((out.length : Int) + 1) first, false, insM out ((i + D) % ((out.length : Int) + 1)).toNat (n + (i + D) / ((out.length : Int) + 1))⟩) := by
                      show (⟨rD _ D, aD _ D + 1, _, _, _⟩ : Dst) = _
                      rw [HRD.out]
                      show (⟨_, (D + i) % _ + 1, _, _, insM out ((D + i) % _).toNat _⟩ : Dst) = _
                      rw [Int.add_comm D i]
                    rw [HRD.out] at HR
                    have HRG := Hid.mk' (HRI.out (n + (i + D) / ((out.length : Int) + 1)) wr)
                    have hbb := bias_bd first (show 0 ≤ D by omega) (by omega) (show 1 ≤ (out.length : Int) + 1 by omega)
                    have HBB : Hid (∀ W, _) := fun W => HBI.out D ((out.length : Int) + 1) first W (by omega) (by omega) (by omega) (by omega)
                    have hrg0 : rgtB (n + (i + D) / ((out.length : Int) + 1)) = true → n + (i + D) / ((out.length : Int) + 1) ≤ 1114111 := fun e => by
                      unfold rgtB at e
                      have := of_decide_eq_true e
                      omega
                    by_cases hrt : rgtB (n + (i + D) / ((out.length : Int) + 1)) = true
                    · have hr2 := hrg0 hrt
                      rw [hrt] at HRG
                      rw [if_pos hrt, HGD.out] at HR
                      have hrw : IntKind.i32.wrap (n + (i + D) / ((out.length : Int) + 1)) = n + (i + D) / ((out.length : Int) + 1) := by rw [IntKind.wrap_i32]; omega
                      have hrd4 : decide (1114111 < n + (i + D) / ((out.length : Int) + 1)) = false := decide_eq_false (by omega)
                      have hrn0 : 0 ≤ n + (i + D) / ((out.length : Int) + 1) := by omega
                      obtain ⟨r, hrE⟩ : ∃ r, n + (i + D) / ((out.length : Int) + 1) = r := ⟨_, rfl⟩
                      rw [hrE] at HR HRG hr2 hrw hrd4 hrn0
                      obtain ⟨ia, hia⟩ : ∃ ia : Nat, (i + D) % ((out.length : Int) + 1) = ia := ⟨((i + D) % ((out.length : Int) + 1)).toNat, by omega⟩
                      rw [hia] at HR e2 e3
                      rw [Int.toNat_natCast] at HR
                      have hial : ia ≤ out.length := by omega
                      have HIN : Hid (cellsOf (insM out ia r) = (cellsOf (out.take ia) ++ [.int .i32 r]) ++ cellsOf (out.drop ia)) := by unfold cellsOf insM; simp [Hid]
                      have HILN : Hid ((insM out ia r).length = out.length + 1) := ins_len _ _ _
                      generalize biasM D ((out.length : Int) + 1) first = nb at *
                      clear hrt hrg0 HGD HRD
                      rcases own_cap HOW.out with ⟨hv, hlen⟩ | ⟨gg, cp, hv, hcp, hcm⟩
                      · subst hv
                        obtain rfl : out = [] := List.eq_nil_of_length_eq_zero hlen
                        obtain rfl : ia = 0 := by simpa using hial
                        obtain rfl : i = 0 := by simp at hi1; omega
                        have hbs := HB3.out.size
                        simp only [List.length_nil, Int.natCast_zero, Int.zero_add, Int.ediv_one] at hrE HBB hia HILN
                        go_wp2_with fail
                        refine HV.out.mono ?_
                        rintro e w5 ⟨rfl, rfl⟩
                        go_wp2_with fail
                        refine HBN.out.mono ?_
                        rintro e w5 ⟨rfl, rfl⟩
                        go_wp2_with fail
                        refine HRG.out.mono ?_
                        rintro e w5 ⟨rfl, rfl⟩
                        go_wp2_with (first
                            | (at_builtin; refine wpList_append_own _ rfl _ _ 24 rfl wr.heap.size 21 i0 (.int .i32 0) 1 4 Tryd.underlying24 hi hz0 hz1 hz2 rfl (by decide) _ _ _ rfl ((World.ownsRow_nil wr wr.heap.size 21 1).alloc _) ⟨wr.heap.size, 0, none⟩ 1 1 ([r].map (Value.int .i32)) rfl rfl (cells_new _ _ _) (ints_one _ _) (by unfold maxLen; omega) (by omega) (by simp) ?_; intro v2 w2 hown2 hgrow2 _; have hbB : Below wr.heap.size wr w2 := ((Below.refl _ wr).alloc (Nat.le_refl _) _).grown hgrow2 (by simp) (fun k hk => by cases hk))
                            | (at_builtin; refine Lib.wpList_append_run _ rfl _ _ _ _ rfl v2 (.slice none 0 0) rfl rfl _ _ (run_append_owned_none _ wr.heap.size 24 _ 21 i0 1 Tryd.underlying24 hi _ _ _ hown2) ?_))
                        have HO3 : Hid (w2.ownsRow w.heap.size 21 1 v2 (insM [] 0 r).length (cellsOf (insM [] 0 r))) := by
                          rw [HIN.out, HILN.out]
                          refine own_weaken (B := wr.heap.size) ?_ hbs
                          exact hown2
                        have HB4 : Hid (Below w.heap.size w w2) := HB3.out.trans (hbB.mono hbs)
                        have HAT2 : Hid (AtD s g' ⟨r, 1, nb, false, insM [] 0 r⟩ (at1 + 1) 0 0 1 R) := ⟨by omega, .inl ⟨rfl, rfl, rfl, HR.out⟩⟩
                        clear hown2 hgrow2 hbB HR
                        go_wp2_with fail
                        refine (HBB.out _).mono ?_
                        rintro e w6 ⟨rfl, rfl⟩
                        go_wp2
                        go_roundw
                        case rel => exact ⟨r, 1, nb, false, insM [] 0 r, 0, 1, 0, at1 + 1, g', rfl, rfl, rfl, rfl, rfl, rfl, rfl, by go_num, by omega, by omega, by rw [HILN.out]; omega, by omega, by omega, by omega, by rw [HILN.out]; omega, hbb.1, hbb.2, by omega, by omega, by omega, by omega, HO3, HAT2, HB4⟩
                        case measure => simp [intOf]; omega
                      · subst hv
                        unfold maxLen at hcm
                        have how := HOW.out
                        have hbs := HB3.out.size
                        have hgg := (how.lt gg rfl).2
                        have hiz : (ia : Int) ≤ (cp : Int) := by omega
                        have hizl : (ia : Int) ≤ (out.length : Int) := by omega
                        have hiz0 : (0 : Int) ≤ (ia : Int) := by omega
                        have HPA : Hid (∀ j, j < (out.take ia).length → 0 + j < out.length ∧ out[0 + j]? = (out.take ia)[j]?) := fun j hj => by
                          rw [List.length_take] at hj
                          refine ⟨by omega, ?_⟩
                          rw [Nat.zero_add, List.getElem?_take_of_lt (by omega)]
                        by_cases hic : cp = ia
                        · have HPB : Hid (∀ j, j < (out.drop ia).length → 0 + j < out.length ∧ out[0 + j]? = (out.drop ia)[j]?) := fun j hj => by
                            rw [List.length_drop] at hj
                            omega
                          have hci : ia = cp := hic.symm
                          subst hci
                          have HOI : Hid (out.length = ia) := by show _ = _; omega
                          go_wp2_with fail
                          refine HV.out.mono ?_
                          rintro e w5 ⟨rfl, rfl⟩
                          go_wp2_with fail
                          refine HBN.out.mono ?_
                          rintro e w5 ⟨rfl, rfl⟩
                          go_wp2_with fail
                          refine HRG.out.mono ?_
                          rintro e w5 ⟨rfl, rfl⟩
                          go_wp2_with (first
                            | (at_builtin; refine wpList_append_own _ rfl _ _ 24 rfl wr.heap.size 21 i0 (.int .i32 0) 1 4 Tryd.underlying24 hi hz0 hz1 hz2 rfl (by decide) _ _ _ rfl (World.ownsRow_nil wr wr.heap.size 21 1) ⟨gg, 0, none⟩ ia ia (cellsOf (out.take ia)) rfl (by rw [cellsOf_len, List.length_take]; omega) (own_part how 0 (out.take ia) HPA.out) (cellsOf_one _) (by unfold maxLen; omega) (by omega) (by omega) ?_; intro v1 w1 hown1 hgrow1 _; have hbA : Below wr.heap.size wr w1 := (Below.refl _ wr).grown hgrow1 (Nat.le_refl _) (fun k hk => by cases hk); have how1 := owns_below how hbA)
                            | (at_builtin; refine wpList_append_own _ rfl _ _ 24 rfl wr.heap.size 21 i0 (.int .i32 0) 1 4 Tryd.underlying24 hi hz0 hz1 hz2 rfl (by decide) _ _ _ rfl (hown1.alloc _) ⟨w1.heap.size, 0, none⟩ 1 1 ([r].map (Value.int .i32)) rfl rfl (cells_new _ _ _) (ints_one _ _) (by unfold maxLen; omega) (by omega) (by have := hbA.size; simp; omega) ?_; intro v2 w2 hown2 hgrow2 _; have hbB : Below wr.heap.size wr w2 := (hbA.alloc hbA.size _).grown hgrow2 (by have := hbA.size; simp; omega) (fun k hk => (hown1.lt k hk).1); have how2 := owns_below how hbB)
                            | (at_builtin; refine wpList_append_own _ rfl _ _ 24 rfl wr.heap.size 21 i0 (.int .i32 0) 1 4 Tryd.underlying24 hi hz0 hz1 hz2 rfl (by decide) _ _ _ rfl hown2 ⟨gg, 0, none⟩ 0 0 [] rfl rfl (fun j u hu => by simp at hu) (fun u hu => by cases hu) (by unfold maxLen; omega) (by omega) (by have := hbB.size; omega) ?_; intro v3 w3 hown3 hgrow3 _; have hbC : Below wr.heap.size wr w3 := hbB.grown hgrow3 (by have := hbB.size; omega) (fun k hk => (hown2.lt k hk).1)))
                          have HO3 : Hid (w3.ownsRow w.heap.size 21 1 v3 (insM out ia r).length (cellsOf (insM out ia r))) := by
                            rw [HIN.out, HILN.out, show out.drop ia = [] from List.drop_eq_nil_of_le (Nat.le_of_eq HOI.out)]
                            refine own_weaken (B := wr.heap.size) ?_ hbs
                            rw [show out.length + 1 = 0 + ia + 1 + 0 by have := HOI.out; omega]
                            exact hown3
                          have HB4 : Hid (Below w.heap.size w w3) := HB3.out.trans (hbC.mono hbs)
                          have HAT2 : Hid (AtD s g' ⟨r, (ia : Int) + 1, nb, false, insM out ia r⟩ (at1 + 1) 0 0 1 R) := ⟨by omega, .inl ⟨rfl, rfl, rfl, HR.out⟩⟩
                          clear hown1 hown2 hown3 hgrow1 hgrow2 hgrow3 hbA hbB hbC how how1 how2 HR HPA HPB
                          go_wp2_with fail
                          refine (HBB.out _).mono ?_
                          rintro e w6 ⟨rfl, rfl⟩
                          go_wp2
                          go_roundw
                          case rel => exact ⟨r, (ia : Int) + 1, nb, false, insM out ia r, 0, 1, 0, at1 + 1, g', rfl, rfl, rfl, rfl, rfl, rfl, rfl, by go_num, by omega, by omega, by rw [HILN.out]; omega, by omega, by omega, by omega, by rw [HILN.out]; omega, hbb.1, hbb.2, by omega, by omega, by omega, by omega, HO3, HAT2, HB4⟩
                          case measure => simp [intOf]; omega
                        · have HPB : Hid (∀ j, j < (out.drop ia).length → ia + j < out.length ∧ out[ia + j]? = (out.drop ia)[j]?) := fun j hj => by
                            rw [List.length_drop] at hj
                            refine ⟨by omega, ?_⟩
                            rw [List.getElem?_drop]
                          go_wp2_with fail
                          refine HV.out.mono ?_
                          rintro e w5 ⟨rfl, rfl⟩
                          go_wp2_with fail
                          refine HBN.out.mono ?_
                          rintro e w5 ⟨rfl, rfl⟩
                          go_wp2_with fail
                          refine HRG.out.mono ?_
                          rintro e w5 ⟨rfl, rfl⟩
                          go_wp2_with (first
                            | (at_builtin; refine wpList_append_own _ rfl _ _ 24 rfl wr.heap.size 21 i0 (.int .i32 0) 1 4 Tryd.underlying24 hi hz0 hz1 hz2 rfl (by decide) _ _ _ rfl (World.ownsRow_nil wr wr.heap.size 21 1) ⟨gg, 0, none⟩ ia cp (cellsOf (out.take ia)) rfl (by rw [cellsOf_len, List.length_take]; omega) (own_part how 0 (out.take ia) HPA.out) (cellsOf_one _) (by unfold maxLen; omega) (by omega) (by omega) ?_; intro v1 w1 hown1 hgrow1 _; have hbA : Below wr.heap.size wr w1 := (Below.refl _ wr).grown hgrow1 (Nat.le_refl _) (fun k hk => by cases hk); have how1 := owns_below how hbA)
                            | (at_builtin; refine wpList_append_own _ rfl _ _ 24 rfl wr.heap.size 21 i0 (.int .i32 0) 1 4 Tryd.underlying24 hi hz0 hz1 hz2 rfl (by decide) _ _ _ rfl (hown1.alloc _) ⟨w1.heap.size, 0, none⟩ 1 1 ([r].map (Value.int .i32)) rfl rfl (cells_new _ _ _) (ints_one _ _) (by unfold maxLen; omega) (by omega) (by have := hbA.size; simp; omega) ?_; intro v2 w2 hown2 hgrow2 _; have hbB : Below wr.heap.size wr w2 := (hbA.alloc hbA.size _).grown hgrow2 (by have := hbA.size; simp; omega) (fun k hk => (hown1.lt k hk).1); have how2 := owns_below how hbB)
                            | (at_builtin; refine wpList_append_own _ rfl _ _ 24 rfl wr.heap.size 21 i0 (.int .i32 0) 1 4 Tryd.underlying24 hi hz0 hz1 hz2 rfl (by decide) _ _ _ rfl hown2 ⟨gg, ia, none⟩ (out.length - ia) (cp - ia) (cellsOf (out.drop ia)) rfl (by rw [cellsOf_len, List.length_drop]; omega) (own_part how2 ia (out.drop ia) HPB.out) (cellsOf_one _) (by unfold maxLen; omega) (by omega) (by have := hbB.size; omega) ?_; intro v3 w3 hown3 hgrow3 _; have hbC : Below wr.heap.size wr w3 := hbB.grown hgrow3 (by have := hbB.size; omega) (fun k hk => (hown2.lt k hk).1)))
                          have HO3 : Hid (w3.ownsRow w.heap.size 21 1 v3 (insM out ia r).length (cellsOf (insM out ia r))) := by
                            rw [HIN.out, HILN.out]
                            refine own_weaken (B := wr.heap.size) ?_ hbs
                            rw [show out.length + 1 = 0 + ia + 1 + (out.length - ia) by omega]
                            exact hown3
                          have HB4 : Hid (Below w.heap.size w w3) := HB3.out.trans (hbC.mono hbs)
                          have HAT2 : Hid (AtD s g' ⟨r, (ia : Int) + 1, nb, false, insM out ia r⟩ (at1 + 1) 0 0 1 R) := ⟨by omega, .inl ⟨rfl, rfl, rfl, HR.out⟩⟩
                          clear hown1 hown2 hown3 hgrow1 hgrow2 hgrow3 hbA hbB hbC how how1 how2 HR HPA HPB
                          go_wp2_with fail
                          refine (HBB.out _).mono ?_
                          rintro e w6 ⟨rfl, rfl⟩
                          go_wp2
                          go_roundw
                          case rel => exact ⟨r, (ia : Int) + 1, nb, false, insM out ia r, 0, 1, 0, at1 + 1, g', rfl, rfl, rfl, rfl, rfl, rfl, rfl, by go_num, by omega, by omega, by rw [HILN.out]; omega, by omega, by omega, by omega, by rw [HILN.out]; omega, hbb.1, hbb.2, by omega, by omega, by omega, by omega, HO3, HAT2, HB4⟩
                          case measure => simp [intOf]; omega
                    · have HX : Hid (RefIs w wr (.returned (.tuple #[.slice none 0 0, .int .i64 (at1 : Int), .int .i64 4])) R) := by
                        rw [if_neg hrt] at HR
                        rw [← HR.out]
                        exact ⟨rfl, HB3.out⟩
                      have hrn0 : 0 ≤ n + (i + D) / ((out.length : Int) + 1) := by omega
                      have hrE0 : rgtB (n + (i + D) / ((out.length : Int) + 1)) = false := by simpa using hrt
                      rw [hrE0] at HRG
                      clear hrt hrg0 HGD HRD HR HST HEN HBB hrE0
                      obtain ⟨va, vcp, rfl⟩ := own_slice HOW.out
                      by_cases hbig : 1114111 < n + (i + D) / ((out.length : Int) + 1)
                      · obtain ⟨r, hrE⟩ : ∃ r, n + (i + D) / ((out.length : Int) + 1) = r := ⟨_, rfl⟩
                        rw [hrE] at HRG hbig hrn0
                        go_wp2_with fail
                        refine HV.out.mono ?_
                        rintro e w5 ⟨rfl, rfl⟩
                        go_wp2_with fail
                        refine HBN.out.mono ?_
                        rintro e w5 ⟨rfl, rfl⟩
                        go_wp2
                        go_ret3
                        exact HX.out
                      · have hrw : IntKind.i32.wrap (n + (i + D) / ((out.length : Int) + 1)) = n + (i + D) / ((out.length : Int) + 1) := by rw [IntKind.wrap_i32]; omega
                        have hrd4 : decide (1114111 < n + (i + D) / ((out.length : Int) + 1)) = false := decide_eq_false hbig
                        obtain ⟨r, hrE⟩ : ∃ r, n + (i + D) / ((out.length : Int) + 1) = r := ⟨_, rfl⟩
                        rw [hrE] at HRG hbig hrn0 hrw hrd4
                        go_wp2_with fail
                        refine HV.out.mono ?_
                        rintro e w5 ⟨rfl, rfl⟩
                        go_wp2_with fail
                        refine HBN.out.mono ?_
                        rintro e w5 ⟨rfl, rfl⟩
                        go_wp2_with fail
                        refine HRG.out.mono ?_
                        rintro e w5 ⟨rfl, rfl⟩
                        go_wp2
                        go_ret3
                        exact HX.out
                  · rw [if_neg h3] at HR
                    have h3d : decide (t ≤ y) = true := decide_eq_true (by omega)
                    have h3z : t ≤ y := by omega
                    have hyu : u ≤ y * u := by
                      have e1 : 1 * u ≤ y * u := Int.mul_le_mul_of_nonneg_right (by omega) (by omega)
                      omega
                    have hu2 : 1 ≤ u * (36 - t) := by
                      have := Int.mul_le_mul_of_nonneg_left (show (1 : Int) ≤ 36 - t by omega) (show (0 : Int) ≤ u by omega)
                      omega
                    have hu3 : u * (36 - t) ≤ 75161927645 := by
                      have e1 : u * (36 - t) ≤ 2147483647 * (36 - t) := Int.mul_le_mul_of_nonneg_right (by omega) (by omega)
                      omega
                    have HNX : Hid (AtD s g' ⟨n, i, bias, first, out⟩ (at1 + 1) (k + 1) (d + y * u) (u * (36 - t)) R) := ⟨by omega, .inr ⟨by omega, HR.out⟩⟩
                    clear HR HST HEN
                    go_wp2_with fail
                    refine HV.out.mono ?_
                    rintro e w5 ⟨rfl, rfl⟩
                    go_wp2_with fail
                    refine HBN.out.mono ?_
                    rintro e w5 ⟨rfl, rfl⟩
                    go_wp2
                    go_roundw
                    case rel => exact ⟨n, i, bias, first, out, d + y * u, u * (36 - t), k + 1, at1 + 1, g', rfl, rfl, rfl, rfl, rfl, rfl, by go_num, by go_num, by omega, by omega, by omega, hn0, hn1, hi0, hi1, hb0, hb1, by omega, by omega, hu2, hu3, HOW, HNX, HB3⟩
                    case measure => simp [intOf]; omega
            · obtain rfl : at1 = s.size := by omega
              have hlz3 : decide ((s.size : Int) < (s.size : Int)) = false := by simp
              have hE := HEN.out g _ k d u R HAD.out
              by_cases hk0 : 0 < k
              · rw [if_pos hk0] at hE
                have hkd : decide (0 < (k : Int)) = true := decide_eq_true (by omega)
                have hkz : 0 < (k : Int) := by omega
                have HX : Hid (RefIs w wr (.returned (.tuple #[.slice none 0 0, .int .i64 (s.size : Int), .int .i64 2])) R) := by
                  rw [hE]
                  exact ⟨rfl, HB3.out⟩
                clear hE HAD HST HEN
                go_wp2
                go_ret3
                exact HX.out
              · rw [if_neg hk0] at hE
                have hkd : decide (0 < (k : Int)) = false := decide_eq_false (by omega)
                obtain ⟨va, vcp, rfl⟩ := own_slice HOW.out
                have HX : Hid (RefIs w wr (.returned (.tuple #[.slice va out.length vcp, .int .i64 0, .int .i64 0])) R) := by
                  rw [hE]
                  exact ⟨_, rfl, HOW.out, HB3.out⟩
                clear hE HAD HST HEN
                go_wp2
                go_ret3
                exact HX.out
end Go.Proofs.YtockmkcoehepiaaDoor

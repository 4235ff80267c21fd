/-
  What is proved here: what the reference's Unescape (layer 2) answers at every text of at most 2^31 bytes.
-/
import Derived.Test.YteflghhpdikidaaDoorRefU0
namespace Go.Proofs.YteflghhpdikidaaDoor
open Go.RowKit

theorem esc_at {s : ByteArray} {k v : Nat} (h2 : k + 2 < s.size) (h : Pct.esc (s.data.toList.drop (k + 1)) = (v, 0)) : ∃ x y : Nat, Pct.hex s[k + 1].toNat = some x ∧ Pct.hex s[k + 2].toNat = some y ∧ v = 16 * x + y := by
  rw [drop_cons s (k + 1) (by omega), drop_cons s (k + 2) (by omega)] at h
  obtain ⟨a, b, u, x, y, e, ha, hb, hv⟩ := Pct.esc_ok h
  simp at e
  obtain ⟨rfl, rfl, -⟩ := e
  exact ⟨x, y, ha, hb, hv⟩

theorem esc_err_at {s : ByteArray} {k v c : Nat} (hk : k < s.size) (h : Pct.esc (s.data.toList.drop (k + 1)) = (v, c)) (hc : c ≠ 0) :
    (s.size ≤ k + 2 ∧ c = 2) ∨ (∃ (h2 : k + 2 < s.size), c = 1 ∧ Pct.hex s[k + 1].toNat = none) ∨ (∃ (y : Nat) (h2 : k + 2 < s.size), c = 1 ∧ Pct.hex s[k + 1].toNat = some y ∧ Pct.hex s[k + 2].toNat = none) := by
  have hl : (s.data.toList.drop (k + 1)).length = s.size - (k + 1) := by rw [List.length_drop]; rfl
  by_cases h2 : k + 2 < s.size
  · right
    rw [drop_cons s (k + 1) (by omega), drop_cons s (k + 2) (by omega), Pct.esc] at h
    rcases hy : Pct.hex s[k + 1].toNat with _ | y
    · rw [hy] at h; simp at h; exact .inl ⟨h2, h.2.symm, by first | rfl | exact hy⟩
    · rcases hz : Pct.hex s[k + 2].toNat with _ | z
      · rw [hy, hz] at h; simp at h; exact .inr ⟨y, h2, h.2.symm, by first | rfl | exact hy, by first | rfl | exact hz⟩
      · rw [hy, hz] at h; simp at h; exact absurd h.2.symm hc
  · left
    refine ⟨by omega, ?_⟩
    match s.data.toList.drop (k + 1), hl, h with
    | [], _, h => simp [Pct.esc] at h; exact h.2.symm
    | [_], _, h => simp [Pct.esc] at h; exact h.2.symm
    | _ :: _ :: _, hl, _ => simp at hl; omega

set_option maxRecDepth 100000 in
set_option maxHeartbeats 2000000 in
theorem refUn_any (s : ByteArray) (w : World) (hs : s.size ≤ 2147483648) (r : List (Nat × UInt8) × Nat × Nat) (hun : Pct.un s.data.toList 0 = r) :
    Calls Tryd.prog 11 #[.string s] w fun e w' => ∃ v, e = .returned (.agg #[.string (Pct.str r.1), v, .int .i64 r.2.1, .int .i64 r.2.2]) ∧ Nums .i64 w' v (r.1.map fun x => (x.1 : Int)) ∧ Below w.heap.size w w' := by
  obtain ⟨i0, hi, hz0, hz1, hz2⟩ := info_parts Tryd.infoInt
  have HSL : Hid (s.data.toList.length = s.size) := rfl
  have HU := Hid.mk' hun
  clear hun
  go_enter Tryd.func11, Tryd.ntmps11
  go_wp2
  go_loopw [4, 5, 6] (fun i _ _ wr => ∃ (k : Nat) (m : List (Nat × UInt8)), k ≤ s.size ∧ m.length ≤ k ∧ i = .int .i64 k ∧ GotAt (w.heap.size + 1) m wr ∧ Below w.heap.size w wr ∧ wr.heap[w.heap.size]? = some (.cells #[.string ⟨#[]⟩, .slice none 0 0, .int .i64 0, .int .i64 0] 29 (0, 0)) ∧ Hid (Pct.un s.data.toList 0 = Pct.glue m (Pct.un (s.data.toList.drop k) k))) (fun i _ _ _ => s.size - (intOf i).toNat)
  case atStart =>
    refine ⟨0, [], Nat.zero_le _, Nat.le_refl _, rfl, ⟨_, ?_, World.ownsRow_nil _ _ _ _⟩, ((Below.refl _ _).alloc (Nat.le_refl _) _).alloc (by simp) _, ?_, Pct.glue_start _⟩
    · have e : w.heap.size + 1 = (w.alloc (.cells #[.string ⟨#[]⟩, .slice none 0 0, .int .i64 0, .int .i64 0] 29)).heap.size := by simp
      rw [e]; exact heap_alloc_new _ _
    · exact (Below.heap_alloc _ _ _ (by simp)).trans (heap_alloc_new w _)
  case round =>
    obtain ⟨k, m, hk, hm, rfl, ⟨v, hv, ho⟩, hb, hB0, HD⟩ := hrel
    by_cases hlt : k < s.size
    · have HDC := Hid.mk' (drop_cons s k hlt)
      by_cases hp : s[k].toNat = 37
      · have hpz : ((s[k].toNat : Int) != 37) = false := by simp; omega
        obtain ⟨x, c, he⟩ : ∃ v c, Pct.esc (s.data.toList.drop (k + 1)) = (v, c) := ⟨_, _, rfl⟩
        by_cases hc : c = 0
        · subst hc
          obtain ⟨hu1, hv256, hlen⟩ := Pct.un_ok k x hp he
          have hlen' : k + 2 < s.size := by rw [List.length_drop, HSL.out] at hlen; omega
          obtain ⟨y, z, hy, hz, hx⟩ := esc_at hlen' he
          have hy16 := Pct.hex_lt hy
          have hz16 := Pct.hex_lt hz
          have HY := Hid.mk' (fun w => digit_some _ _ w hy)
          have HZ := Hid.mk' (fun w => digit_some _ _ w hz)
          have R : Hid (Pct.un s.data.toList 0 = Pct.glue (m ++ [(k, UInt8.ofNat x)]) (Pct.un (s.data.toList.drop (k + 3)) (k + 3))) := by
            show _ = _
            rw [HD.out, HDC.out, hu1, Pct.glue_glue, List.drop_drop]
          obtain ⟨c0, c1, -, -⟩ := four_cell hv
          obtain ⟨f0, f1, -, -⟩ := four_free hv
          have hts := str_size m
          clear he hlen hu1 hy hz hp
          go_wp2_with fail
          refine (HY.out _).mono ?_
          rintro e w1 ⟨rfl, rfl⟩
          go_wp2_with fail
          refine (HZ.out _).mono ?_
          rintro e w1 ⟨rfl, rfl⟩
          have hcv := conv_one wr (16 * y + z)
          have ht1 : (strOfNums [16 * (y : Int) + z]).size = 1 := strOfNums_size _
          have hBlt := lt_of_block hv
          have HT := Hid.mk' (str_snoc m k (UInt8.ofNat x) (strOfNums [16 * (y : Int) + z]) (by rw [strOfNums_data]; show [UInt8.ofNat (16 * (y : Int) + z).toNat] = _; rw [show (16 * (y : Int) + z).toNat = x by omega]))
          generalize strOfNums [16 * (y : Int) + z] = t1 at *
          generalize Pct.str m = tt at *
          obtain ⟨hv1, ho1, hb1⟩ := got_mid (.string (tt ++ t1)) hv ho
          have hv2 := (Below.heap_alloc (wr.setCell ⟨w.heap.size + 1, 0, none⟩ (.string (tt ++ t1))) (.cells #[.int .u8 (16 * (y : Int) + z)] 5) _ (lt_of_block hv1)).trans hv1
          have ho2 := ho1.alloc (.cells #[.int .u8 (16 * (y : Int) + z)] 5)
          have hb2 := hb1.alloc (by simp; omega) (.cells #[.int .u8 (16 * (y : Int) + z)] 5)
          have hsz : ((wr.setCell ⟨w.heap.size + 1, 0, none⟩ (.string (tt ++ t1))).alloc (.cells #[.int .u8 (16 * (y : Int) + z)] 5)).heap.size = wr.heap.size + 1 := by simp
          have hnw := cells_new ((wr.setCell ⟨w.heap.size + 1, 0, none⟩ (.string (tt ++ t1))).alloc (.cells #[.int .u8 (16 * (y : Int) + z)] 5)) [.int .i64 (k : Int)] 3
          rw [hsz] at hnw
          have HV1 := Hid.mk' hv2
          have HO1 := Hid.mk' ho2
          have HB1 := Hid.mk' hb2
          have HNW := Hid.mk' hnw
          have HB0 := Hid.mk' hB0
          clear hv1 ho1 hb1 hv2 ho2 hb2 hsz hnw hv ho hB0
          go_wp2_with (at_builtin; refine wpList_append_own _ rfl _ _ 27 rfl (w.heap.size + 1 + 1) 3 i0 (.int .i64 0) 1 8 Tryd.underlying27 hi hz0 hz1 hz2 rfl (by decide) _ _ _ rfl (HO1.out.alloc _) ⟨wr.heap.size + 1, 0, none⟩ 1 1 [.int .i64 k] rfl rfl HNW.out (by intro u hu; simp at hu; subst hu; rfl) (by unfold maxLen; omega) (by omega) (by simp; omega) ?_; intro v' w2 hown' hgrow _; obtain ⟨⟨g', cap', rfl⟩, cW2, fW2, hv2, ho2, hb2⟩ := got_push (l := m.map fun x => (x.1 : Int)) (List.length_map ..) (k : Int) _ HV1.out HO1.out hown' hgrow; have HV2 := Hid.mk' hv2; have HO2 := Hid.mk' ho2; have HB2 := Hid.mk' hb2; clear hown' hgrow hv2 ho2 hb2)
          go_roundw
          case rel =>
            have HBB := HB1.out.trans HB2.out
            have HGA : GotAt (w.heap.size + 1) (m ++ [(k, UInt8.ofNat x)]) (w2.setCell ⟨w.heap.size + 1, 1, none⟩ (.slice (some ⟨g', 0, none⟩) (m.length + 1) cap')) := ⟨_, by rw [← HT.out]; exact HV2.out, by simpa using HO2.out⟩
            exact ⟨k + 3, m ++ [(k, UInt8.ofNat x)], by omega, by simp; omega, by go_num, HGA, hb.trans (HBB.mono (by omega)), (HBB.block _ (by omega)).trans HB0.out, R⟩
          case measure => simp [intOf]; omega
        · have HR : Hid (r = ([], k, c)) := by
            show _ = _
            rw [← HU.out, HD.out, HDC.out, Pct.un_bad k x c hp he hc, Pct.glue_bad _ _ _ hc]
          obtain ⟨d0, d1, d2, d3⟩ := four_cell hB0
          obtain ⟨f0, f1, f2, f3⟩ := four_free hB0
          have HF := Hid.mk' (fun n : Int => four_store (y0 := .string ⟨#[]⟩) (y1 := .slice none 0 0) (y2 := .int .i64 k) (y3 := .int .i64 n) hB0)
          clear hB0 hv ho hp
          rcases esc_err_at hlt he hc with ⟨h2, rfl⟩ | ⟨h2, rfl, hy⟩ | ⟨y, h2, rfl, hy, hz⟩
          · obtain ⟨W, hW, hq, hbW, -⟩ := HF.out 2
            obtain ⟨q0, q1, q2, q3⟩ := four_cell hq
            have HW := Hid.mk' hW
            clear hW hq HF
            go_wp2
            rw [← HW.out]
            refine bodyPost_ret (v := .agg #[.string ⟨#[]⟩, .slice none 0 0, .int .i64 k, .int .i64 2]) (by simp [results, Tryd.results11, go_sem, q0, q1, q2, q3]) rfl ?_
            rw [HR.out]
            exact ⟨_, rfl, ⟨none, 0, rfl, fun j hj => by simp at hj⟩, hb.trans hbW⟩
          · cases hz : Pct.hex s[k + 2].toNat with
            | none =>
              have HY := Hid.mk' (fun w => digit_none _ w hy)
              have HZ := Hid.mk' (fun w => digit_none _ w hz)
              obtain ⟨W, hW, hq, hbW, -⟩ := HF.out 1
              obtain ⟨q0, q1, q2, q3⟩ := four_cell hq
              have HW := Hid.mk' hW
              clear hW hq HF
              clear hy hz
              go_wp2_with fail
              refine (HY.out _).mono ?_
              rintro e w1 ⟨rfl, rfl⟩
              go_wp2_with fail
              refine (HZ.out _).mono ?_
              rintro e w1 ⟨rfl, rfl⟩
              go_wp2
              rw [← HW.out]
              refine bodyPost_ret (v := .agg #[.string ⟨#[]⟩, .slice none 0 0, .int .i64 k, .int .i64 1]) (by simp [results, Tryd.results11, go_sem, q0, q1, q2, q3]) rfl ?_
              rw [HR.out]
              exact ⟨_, rfl, ⟨none, 0, rfl, fun j hj => by simp at hj⟩, hb.trans hbW⟩
            | some z =>
              have HY := Hid.mk' (fun w => digit_none _ w hy)
              have HZ := Hid.mk' (fun w => digit_some _ _ w hz)
              obtain ⟨W, hW, hq, hbW, -⟩ := HF.out 1
              obtain ⟨q0, q1, q2, q3⟩ := four_cell hq
              have HW := Hid.mk' hW
              clear hW hq HF
              clear hy hz
              go_wp2_with fail
              refine (HY.out _).mono ?_
              rintro e w1 ⟨rfl, rfl⟩
              go_wp2_with fail
              refine (HZ.out _).mono ?_
              rintro e w1 ⟨rfl, rfl⟩
              go_wp2
              rw [← HW.out]
              refine bodyPost_ret (v := .agg #[.string ⟨#[]⟩, .slice none 0 0, .int .i64 k, .int .i64 1]) (by simp [results, Tryd.results11, go_sem, q0, q1, q2, q3]) rfl ?_
              rw [HR.out]
              exact ⟨_, rfl, ⟨none, 0, rfl, fun j hj => by simp at hj⟩, hb.trans hbW⟩
          · have HY := Hid.mk' (fun w => digit_some _ _ w hy)
            have HZ := Hid.mk' (fun w => digit_none _ w hz)
            obtain ⟨W, hW, hq, hbW, -⟩ := HF.out 1
            obtain ⟨q0, q1, q2, q3⟩ := four_cell hq
            have HW := Hid.mk' hW
            clear hW hq HF
            have hy16 := Pct.hex_lt hy
            clear hy hz
            go_wp2_with fail
            refine (HY.out _).mono ?_
            rintro e w1 ⟨rfl, rfl⟩
            go_wp2_with fail
            refine (HZ.out _).mono ?_
            rintro e w1 ⟨rfl, rfl⟩
            go_wp2
            rw [← HW.out]
            refine bodyPost_ret (v := .agg #[.string ⟨#[]⟩, .slice none 0 0, .int .i64 k, .int .i64 1]) (by simp [results, Tryd.results11, go_sem, q0, q1, q2, q3]) rfl ?_
            rw [HR.out]
            exact ⟨_, rfl, ⟨none, 0, rfl, fun j hj => by simp at hj⟩, hb.trans hbW⟩
      · have hpz : ((s[k].toNat : Int) != 37) = true := by simp; omega
        have R : Hid (Pct.un s.data.toList 0 = Pct.glue (m ++ [(k, s[k])]) (Pct.un (s.data.toList.drop (k + 1)) (k + 1))) := by
          show _ = _
          rw [HD.out, HDC.out, Pct.un_plain _ _ hp, Pct.glue_glue]
        obtain ⟨c0, c1, -, -⟩ := four_cell hv
        obtain ⟨f0, f1, -, -⟩ := four_free hv
        clear hp
        have hts := str_size m
        have HT := Hid.mk' (str_snoc m k s[k] (s.extract k (k + 1)) (cut_one s k hlt))
        generalize Pct.str m = tt at *
        go_wp2
        go_region
        obtain ⟨W1, hW, hv1, ho1, hb1⟩ : ∃ W1 : World, W1 = (wr.setCell ⟨w.heap.size + 1, 0, none⟩ (.string (tt ++ s.extract k (k + 1)))).drew ∧ W1.heap[w.heap.size + 1]? = some (.cells #[.string (tt ++ s.extract k (k + 1)), v, .int .i64 0, .int .i64 0] 29 (0, 0)) ∧ W1.ownsRow (w.heap.size + 1 + 1) 3 1 v m.length ((m.map fun x => (x.1 : Int)).map (Value.int .i64)) ∧ Below (w.heap.size + 1) wr W1 := by
          obtain ⟨h1, h2, h3⟩ := got_mid (.string (tt ++ s.extract k (k + 1))) hv ho
          exact ⟨_, rfl, h1, h2.drew, h3.drew⟩
        rw [← hW]
        have HB1 := Hid.mk' hb1
        have c1' := (four_cell hv1).2.1
        have HV1 := Hid.mk' hv1
        have hB1 := lt_of_block hv1
        have HB0 := Hid.mk' hB0
        clear hW c0 c1 f0 f1 hv ho hv1 hb1 hB0
        go_wp2_with (at_builtin; refine wpList_append_own _ rfl _ _ 27 rfl (w.heap.size + 1 + 1) 3 i0 (.int .i64 0) 1 8 Tryd.underlying27 hi hz0 hz1 hz2 rfl (by decide) _ _ _ rfl (ho1.alloc _) ⟨W1.heap.size, 0, none⟩ 1 1 [.int .i64 k] rfl rfl (cell_one_new _ _ _) (by intro u hu; simp at hu; subst hu; rfl) (by unfold maxLen; omega) (by omega) (by simp; omega) ?_; intro v' w2 hown' hgrow _; obtain ⟨⟨g', cap', rfl⟩, cW2, fW2, hv2, ho2, hb2⟩ := got_push (l := m.map fun x => (x.1 : Int)) (List.length_map ..) (k : Int) _ HV1.out ho1 hown' hgrow; have HV2 := Hid.mk' hv2; have HO2 := Hid.mk' ho2; have HB2 := Hid.mk' hb2; clear hown' hgrow ho1 hv2 ho2 hb2)
        go_roundw
        case rel =>
          have HBB := HB1.out.trans HB2.out
          have HGA : GotAt (w.heap.size + 1) (m ++ [(k, s[k])]) (w2.setCell ⟨w.heap.size + 1, 1, none⟩ (.slice (some ⟨g', 0, none⟩) (m.length + 1) cap')) := ⟨_, by rw [← HT.out]; exact HV2.out, by simpa using HO2.out⟩
          exact ⟨k + 1, m ++ [(k, s[k])], by omega, by simp; omega, by go_num, HGA, hb.trans (HBB.mono (by omega)), (HBB.block _ (by omega)).trans HB0.out, R⟩
        case measure => simp [intOf]; omega
    · have HE : Hid (r = (m, 0, 0)) := by
        show _ = _
        rw [← HU.out, HD.out, List.drop_of_length_le (by rw [HSL.out]; omega), Pct.un_nil, Pct.glue_nil]
      obtain ⟨va, vc, rfl⟩ := own_slice ho
      obtain ⟨c0, c1, c2, c3⟩ := four_cell hv
      obtain ⟨d0, d1, d2, d3⟩ := four_cell hB0
      obtain ⟨f0, f1, f2, f3⟩ := four_free hB0
      obtain ⟨W, hW, hq, hbW, hoW⟩ := four_store (y0 := .string (Pct.str m)) (y1 := .slice va m.length vc) (y2 := .int .i64 0) (y3 := .int .i64 0) hB0
      have HO := Hid.mk' (hoW (by omega) ho)
      obtain ⟨q0, q1, q2, q3⟩ := four_cell hq
      clear hoW ho hv hB0 hq
      go_wp2
      rw [← hW]
      refine bodyPost_ret (v := .agg #[.string (Pct.str m), .slice va m.length vc, .int .i64 0, .int .i64 0]) (by simp [results, Tryd.results11, go_sem, q0, q1, q2, q3]) rfl ?_
      rw [HE.out]
      exact ⟨_, rfl, Nums.own (by simpa using HO.out), hb.trans hbW⟩
end Go.Proofs.YteflghhpdikidaaDoor

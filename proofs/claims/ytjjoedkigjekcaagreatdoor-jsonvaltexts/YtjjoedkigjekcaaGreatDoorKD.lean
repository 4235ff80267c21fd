/-
  What is proved here: what jsonval.Size answers.
-/
import Derived.Test.YtjjoedkigjekcaaGreatDoorKC
import Derived.Test.YtjjoedkigjekcaaGreatDoorJC
namespace Go.Proofs.YtjjoedkigjekcaaGreatDoor
open Go.RowKit

theorem sum_fst_w (L : List (J × List Value)) : L.length ≤ (L.map fun x => weight x.1).sum := len_sum (fun x : J × List Value => weight x.1) (fun x => weight_pos x.1) L
/-- what waits, in a world: all lie in the first world; how many there are, and how much they are -/
structure Waits (w : World) (n R : Nat) (L : List (J × List Value)) (sz wt : Nat) : Prop where
  v : ∀ x ∈ L, VJ w x.1 x.2
  s : n + (L.map fun x => sizeM x.1).sum + sz = R
  w : (L.map fun x => weight x.1).sum + wt ≤ 4000
theorem Waits.four {w : World} {n R : Nat} {L : List (J × List Value)} {sz wt : Nat} (h : Waits w n R L sz wt) : ∀ x ∈ L, x.2.length = 4 := fun x hx => (h.v x hx).len
theorem Waits.len {w : World} {n R : Nat} {L : List (J × List Value)} {sz wt : Nat} (h : Waits w n R L sz wt) : L.length ≤ 4000 := by
  have := sum_fst_w L
  have := h.w
  omega
theorem own_drew {W : World} {B : Nat} {T : TypeId} {z : Nat} {v : Value} {n : Nat} {xs : List Value} (h : W.ownsRow B T z v n xs) : W.drew.ownsRow B T z v n xs := h
set_option maxRecDepth 20000 in
set_option maxHeartbeats 8000000 in
theorem size12_any (t0 : J) (hw0 : weight t0 ≤ 4000) (cs0 : List Value) (w : World) (hv0 : VJ w t0 cs0) :
    Calls Tryz.prog 13 #[.agg cs0.toArray] w fun e w' => e = .returned (.int .i64 (sizeM t0)) ∧ Below w.heap.size w w' := by
  obtain ⟨a0, ca0, b0, cb0, hcs0⟩ := hv0.cells
  obtain ⟨W0, hW0, hsz0, hb0, e0, e1, e2, e3⟩ := val_box w (.int .i64 t0.k) (.string (strL t0.s)) (.slice a0 t0.l.length ca0) (.slice b0 t0.m.length cb0)
  obtain ⟨W1, hW1⟩ : ∃ W1, W0.alloc (.cells #[.int .i64 t0.k, .string (strL t0.s), .slice a0 t0.l.length ca0, .slice b0 t0.m.length cb0] 25) = W1 := ⟨_, rfl⟩
  have hb1 : Below w.heap.size w W1 := by rw [← hW1]; exact hb0.alloc (by omega) _
  have HO1 : Hid (W1.ownsRow w.heap.size 25 4 (.slice (some ⟨w.heap.size + 1, 0, none⟩) 1 1) [(t0, cs0)].length (flatL [(t0, cs0)])) := by
    have h := World.ownsRow_lit (base := w.heap.size) (e := 25) (size := 4) W0 #[.int .i64 t0.k, .string (strL t0.s), .slice a0 t0.l.length ca0, .slice b0 t0.m.length cb0] 1 (by omega) (by unfold maxLen; omega) rfl
    rw [hW1, hsz0] at h
    have e : flatL [(t0, cs0)] = #[Value.int .i64 t0.k, .string (strL t0.s), .slice a0 t0.l.length ca0, .slice b0 t0.m.length cb0].toList := by rw [hcs0]; simp [flatL]
    rw [e]
    exact h
  have HS1 : Hid (Waits w 0 (sizeM t0) [(t0, cs0)] 0 0) := ⟨fun x hx => by obtain rfl := List.mem_singleton.1 hx; exact hv0, by simp, by simpa using hw0⟩
  have hRz : sizeM t0 ≤ 4000 := Nat.le_trans (size_weight t0) hw0
  rw [hcs0]
  generalize sizeM t0 = R at *
  generalize strL t0.s = S0 at *
  generalize t0.l.length = n0 at *
  generalize t0.m.length = m0 at *
  generalize t0.k = k0 at *
  clear hv0 hw0
  go_enter Tryz.func13, Tryz.ntmps13
  go_wp2
  go_loopw [3, 4] (fun x3 x4 wr => ∃ (n : Nat) (L : List (J × List Value)), x3 = .int .i64 n ∧ n ≤ 4000 ∧ Hid (Waits w n R L 0 0) ∧ Hid (wr.ownsRow w.heap.size 25 4 x4 L.length (flatL L)) ∧ Below w.heap.size w wr) (fun x3 _ _ => R - (intOf x3).toNat)
  case atStart => exact ⟨0, [(t0, cs0)], rfl, Nat.zero_le _, HS1, HO1, hb1⟩
  case round =>
    clear HS1 HO1 hb1 hW1 hW0 hsz0 hb0 e0 e1 e2 e3 hcs0
    obtain ⟨n, L, rfl, hn, HS, HO, hbr⟩ := hrel
    obtain ⟨a, c, rfl⟩ := own_form HO.out
    rcases List.eq_nil_or_concat L with rfl | ⟨L', ⟨t, cs⟩, hLL⟩
    · have hRn : R = n := by have := HS.out.s; simpa using this.symm
      subst hRn
      have hz : ([] : List (J × List Value)).length = 0 := rfl
      rw [hz]
      clear HS HO
      go_wp2
      go_ret
      exact ⟨rfl, hbr⟩
    · rw [List.concat_eq_append] at hLL
      subst hLL
      have hlen : (L' ++ [(t, cs)]).length = L'.length + 1 := by simp
      obtain ⟨g, c', e, hgB, hglt⟩ := HO.out.form (by rw [hlen]; omega)
      injection e with e1 e2 e3
      subst e1 e3
      have h4 := HS.out.four
      have h4' : ∀ y ∈ L', y.2.length = 4 := fun y hy => h4 y (by simp [hy])
      have hvt : VJ w t cs := HS.out.v (t, cs) (by simp)
      obtain ⟨aa, cca, bb, ccb, hcs, hLt, hMt⟩ := hvt.parts
      have hcell : ∀ q u, cs[q]? = some u → wr.cell? ⟨g, L'.length * 4 + q, none⟩ = some u := fun q u hq => by
        have hq4 : q < 4 := by
          have := (List.getElem?_eq_some_iff.1 hq).1
          rw [hvt.len] at this
          exact this
        rw [HO.out.cellAt (L'.length * 4 + q) (by rw [hlen]; omega), flatL_last h4', hq]
      have g0 := hcell 0 (.int .i64 t.k) (by rw [hcs]; rfl)
      have g1 := hcell 1 (.string (strL t.s)) (by rw [hcs]; rfl)
      have g2 := hcell 2 (.slice aa t.l.length cca) (by rw [hcs]; rfl)
      have g3 := hcell 3 (.slice bb t.m.length ccb) (by rw [hcs]; rfl)
      rw [Nat.add_zero] at g0
      have hcap : L'.length + 1 ≤ c := by
        rcases HO.out.2 with ⟨h, _⟩ | ⟨g', cap', cur, h, _, _, hnc, _⟩
        · simp at h
        · simp only [Value.slice.injEq, Option.some.injEq, Addr.mk.injEq, and_true, true_and] at h
          obtain ⟨rfl, rfl⟩ := h
          rw [hlen] at hnc; exact hnc
      obtain ⟨W2, hW2, hsz2, hb2, f0, f1, f2, f3⟩ := val_box wr (.int .i64 t.k) (.string (strL t.s)) (.slice aa t.l.length cca) (.slice bb t.m.length ccb)
      have hO2 : W2.ownsRow w.heap.size 25 4 (.slice (some ⟨g, 0, none⟩) L'.length c) L'.length (flatL L') := by
        have h := own_cut HO.out (m := L'.length) (by rw [hlen]; omega)
        rw [flatL_take h4'] at h
        exact owns_below h hb2
      obtain ⟨LE, hLE1, hLE2, hLE3⟩ := rows_of hLt
      have hLEl : LE.length = t.l.length := by rw [← hLE1, List.length_map]
      have hb2w : Below w.heap.size w W2 := hbr.trans (hb2.mono hbr.size)
      have HNW : Hid (∀ j u, (flatL LE)[j]? = some u → ∃ ba oa, aa = some ⟨ba, oa, none⟩ ∧ W2.drew.cell? ⟨ba, oa + j, none⟩ = some u) := fun j u hj => by
        obtain ⟨ba, oa, e, hc⟩ := hLE3 j u hj
        exact ⟨ba, oa, e, (hb2w.cell (lt_of_cell hc)).trans hc⟩
      have HON := Hid.mk' (flatL_one hLE2)
      have HFL : Hid ((flatL LE).length = t.l.length * 4) := by
        show _ = _
        rw [flatL_len (fun x hx => (hLE2 x hx).len), hLEl]
      have HOD := Hid.mk' (own_drew hO2)
      have hwt : weight t = 1 + t.s.length + (t.l.map weight).sum + (t.m.map fun x => x.1.length + weight x.2).sum := by cases t; exact weight_mk ..
      have hst : sizeM t = 1 + (t.l.map sizeM).sum + (t.m.map fun x => sizeM x.2).sum := by cases t; exact sizeM_mk ..
      have hS2 : Waits w (n + 1) R (L' ++ LE) (((t.m.drop 0).map fun x => sizeM x.2).sum) (((t.m.drop 0).map fun x => x.1.length + weight x.2).sum) := by
        refine ⟨fun x hx => ?_, ?_, ?_⟩
        · rcases List.mem_append.1 hx with h | h
          · exact HS.out.v x (by simp [h])
          · exact hLE2 x h
        · have h := HS.out.s
          have e1 : ((LE.map fun x => sizeM x.1)).sum = (t.l.map sizeM).sum := by rw [sum_fst sizeM, hLE1]
          rw [List.map_append, List.sum_append, List.map_cons, List.map_nil, List.sum_cons, List.sum_nil] at h
          rw [List.map_append, List.sum_append, e1, List.drop_zero]
          simp only [] at h
          omega
        · have h := HS.out.w
          have e1 : ((LE.map fun x => weight x.1)).sum = (t.l.map weight).sum := by rw [sum_fst weight, hLE1]
          rw [List.map_append, List.sum_append, List.map_cons, List.map_nil, List.sum_cons, List.sum_nil] at h
          rw [List.map_append, List.sum_append, e1, List.drop_zero]
          simp only [] at h
          omega
      have HS2 := Hid.mk' hS2
      have hLb := hS2.len
      rw [List.length_append, hLEl] at hLb
      have hnR : n + 1 ≤ R := by have := hS2.s; omega
      have hlenLE : (L' ++ LE).length = L'.length + t.l.length := by rw [List.length_append, hLEl]
      have hflat := Hid.mk' (flatL_append L' LE)
      have HLL := Hid.mk' hlenLE
      have HMM : Hid (∀ (j : Nat) (x : List UInt8 × J), t.m[j]? = some x → ∃ (ba oa : Nat) (q0 : Int) (q1 : ByteArray) (q2 : Option Addr) (x2 y2 : Nat) (q3 : Option Addr) (x3 y3 : Nat), bb = some ⟨ba, oa, none⟩ ∧ VJ w x.2 [.int .i64 q0, .string q1, .slice q2 x2 y2, .slice q3 x3 y3] ∧ ∀ W, Below w.heap.size w W → (W.cell? ⟨ba, oa + j * 5, none⟩ = some (.string (strL x.1)) ∧ W.cell? ⟨ba, oa + j * 5 + 1, none⟩ = some (.int .i64 q0) ∧ W.cell? ⟨ba, oa + j * 5 + 2, none⟩ = some (.string q1) ∧ W.cell? ⟨ba, oa + j * 5 + 3, none⟩ = some (.slice q2 x2 y2) ∧ W.cell? ⟨ba, oa + j * 5 + 4, none⟩ = some (.slice q3 x3 y3))) := fun j x hj => by
        obtain ⟨ba, oa, q0, q1, q2, x2, y2, q3, x3, y3, e, h⟩ := memb_full hMt hj
        exact ⟨ba, oa, q0, q1, q2, x2, y2, q3, x3, y3, e, (h w (Below.refl _ _)).2, fun W hb => (h W hb).1⟩
      have HSM : Hid (∀ (j : Nat) (x : List UInt8 × J), t.m[j]? = some x → ((t.m.drop j).map fun x => sizeM x.2).sum = sizeM x.2 + ((t.m.drop (j + 1)).map fun x => sizeM x.2).sum ∧ ((t.m.drop j).map fun x => x.1.length + weight x.2).sum = x.1.length + weight x.2 + ((t.m.drop (j + 1)).map fun x => x.1.length + weight x.2).sum) := fun j x hj => ⟨sum_at (f := fun x : List UInt8 × J => sizeM x.2) hj, sum_at (f := fun x : List UInt8 × J => x.1.length + weight x.2) hj⟩
      have hml : t.m.length ≤ 4000 := by
        have := hS2.w
        have h2 := len_sum (fun x : List UInt8 × J => x.1.length + weight x.2) (fun x => by have := weight_pos x.2; omega) t.m
        rw [List.drop_zero] at this
        omega
      have HBW := Hid.mk' hb2w
      have HT : Hid (∀ W W', Below w.heap.size w W → Below W.heap.size W W' → Below w.heap.size w W') := below_tr
      have hgne : some wr.heap.size ≠ some g := fun e => by have : wr.heap.size = g := (by simpa using e); omega
      have HGN := Hid.mk' hgne
      rw [hlen]
      clear HS HO hcell hcs hLE1 hLE2 hLE3 hLEl hvt hLt hMt hwt hst hS2 hO2 h4 h4' hlen hlenLE hb2 hgne hb2w hbr
      generalize strL t.s = S at *
      generalize t.k = tk at *
      generalize t.m = m at *
      generalize t.l.length = ln at *
      generalize L'.length = nl at *
      have hwrap : IntKind.i64.wrap (nl : Int) = (nl : Int) := wrap_i64 (by omega) (by omega)
      go_wp2
      have hc1 : (nl : Int) ≤ (c : Int) := by omega
      have hc0 : (0 : Int) ≤ (nl : Int) := by omega
      go_region_held3 (fun W' => W'.cell? ⟨wr.heap.size, 2, none⟩ = some (.slice aa ln cca)) (first | exact f2 | assumption) ((refine step_vals _ (by rfl) _ _ (by rfl) w.heap.size (.slice (some ⟨g, 0, none⟩) nl c) nl (flatL L') (by rfl) HOD.out aa ln cca (flatL LE) (by rfl) HFL.out HNW.out HON.out (by omega) (by simp; omega) ?_; intro v5 w5 hown5 hgrow5; have f25 := hgrow5.cell f2 HGN.out))
      have f35 := hgrow5.cell f3 HGN.out
      have hb5 : Below w.heap.size w w5 := (HBW.out.drew).grown hgrow5 (by have := HBW.out.size; simpa using this) (fun j hj => by have : g = j := (by simpa [Value.ownBlock] using hj); omega)
      have HO5 : Hid (w5.ownsRow w.heap.size 25 4 v5 (L' ++ LE).length (flatL (L' ++ LE))) := by
        show w5.ownsRow _ _ _ _ _ _
        rw [HLL.out, hflat.out]; exact hown5
      obtain ⟨i0, hi, hz0, hz1, hz2⟩ := info_parts Tryz.infoValue
      clear hown5 hgrow5 f0 f1 f2 f3 f25 HNW HON HFL HOD hflat HLL g0 g1 g2 g3 hc1 hc0 hwrap hcap HBW HGN hW2 hsz2
      generalize L' ++ LE = M0 at *
      go_wp2
      go_loopw [4, 32] (fun x4 x32 wr => ∃ (j : Nat) (M : List (J × List Value)), x32 = .int .i64 j ∧ j ≤ m.length ∧ Hid (Waits w (n + 1) R M (((m.drop j).map fun x => sizeM x.2).sum) (((m.drop j).map fun x => x.1.length + weight x.2).sum)) ∧ Hid (wr.ownsRow w.heap.size 25 4 x4 M.length (flatL M)) ∧ Below w.heap.size w wr) (fun _ x32 _ => m.length - (intOf x32).toNat)
      case atStart => exact ⟨0, M0, rfl, Nat.zero_le _, HS2, HO5, hb5⟩
      case round =>
        clear HS2 HO5 hb5 f35
        obtain ⟨j, M, rfl, hj, HS, HO, hbr⟩ := hrel
        by_cases hlt : j < m.length
        · obtain ⟨x, ht⟩ := get_lt hlt
          obtain ⟨ba, oa, q0, q1, q2, x2, y2, q3, x3, y3, rfl, hvx, hX⟩ := HMM.out j x ht
          obtain ⟨k0', k1', k2', k3', k4'⟩ := hX _ hbr
          obtain ⟨hs1, hs2⟩ := HSM.out j x ht
          have hS := HS.out
          rw [hs1, hs2] at hS
          have hSN : Waits w (n + 1) R (M ++ [(x.2, [.int .i64 q0, .string q1, .slice q2 x2 y2, .slice q3 x3 y3])]) (((m.drop (j + 1)).map fun x => sizeM x.2).sum) (((m.drop (j + 1)).map fun x => x.1.length + weight x.2).sum) := by
            refine ⟨fun y hy => ?_, ?_, ?_⟩
            · rcases List.mem_append.1 hy with h | h
              · exact hS.v y h
              · obtain rfl := List.mem_singleton.1 h; exact hvx
            · have := hS.s
              rw [List.map_append, List.sum_append]
              simp only [List.map_cons, List.map_nil, List.sum_cons, List.sum_nil]; omega
            · have := hS.w
              rw [List.map_append, List.sum_append]
              simp only [List.map_cons, List.map_nil, List.sum_cons, List.sum_nil]; omega
          have HSN := Hid.mk' hSN
          have hMl := hSN.len
          rw [List.length_append] at hMl
          simp only [List.length_cons, List.length_nil] at hMl
          obtain ⟨W3, hW3, hsz3, hb3, p0, p1, p2, p3, p4⟩ := mem_box wr (.string (strL x.1)) (.int .i64 q0) (.string q1) (.slice q2 x2 y2) (.slice q3 x3 y3)
          have hO3 := owns_below HO.out hb3
          have HO3 := Hid.mk' (hO3.alloc (.cells #[.int .i64 q0, .string q1, .slice q2 x2 y2, .slice q3 x3 y3] 25))
          have HN3 := cells_new W3 [.int .i64 q0, .string q1, .slice q2 x2 y2, .slice q3 x3 y3] 25
          rw [hsz3] at HN3
          have HN3 := Hid.mk' HN3
          have HB3 : Hid (Below w.heap.size w (W3.alloc (.cells #[.int .i64 q0, .string q1, .slice q2 x2 y2, .slice q3 x3 y3] 25))) := (hbr.trans (hb3.mono hbr.size)).alloc (by have := hbr.size; omega) _
          have HFN : Hid (flatL (M ++ [(x.2, [.int .i64 q0, .string q1, .slice q2 x2 y2, .slice q3 x3 y3])]) = flatL M ++ [.int .i64 q0, .string q1, .slice q2 x2 y2, .slice q3 x3 y3]) := by show _ = _; rw [flatL_append]; simp [flatL]
          have HLN : Hid ((M ++ [(x.2, [Value.int .i64 q0, .string q1, .slice q2 x2 y2, .slice q3 x3 y3])]).length = M.length + 1) := by show _ = _; simp
          have HLT : Hid (∀ k, u4.ownBlock = some k → w.heap.size ≤ k) := fun k hk => (hO3.lt k hk).1
          have hwsz := hbr.size
          generalize M ++ [(x.2, [Value.int .i64 q0, .string q1, .slice q2 x2 y2, .slice q3 x3 y3])] = MN at *
          generalize strL x.1 = X at *
          clear HMM HSM HS HO hX ht hs1 hs2 hS hSN hvx hO3 hb3
          go_wp2_with (first | (at_builtin; refine wpList_append_own _ rfl _ _ 22 rfl w.heap.size 25 i0 (.agg #[.int .i64 0, .string ⟨#[]⟩, .slice none 0 0, .slice none 0 0]) 4 72 Tryz.underlying22 hi hz0 hz1 hz2 rfl (by decide) _ M.length (flatL M) rfl HO3.out ⟨wr.heap.size + 1, 0, none⟩ 1 1 [.int .i64 q0, .string q1, .slice q2 x2 y2, .slice q3 x3 y3] rfl rfl HN3.out (by intro u hu; simp at hu; rcases hu with rfl | rfl | rfl | rfl <;> rfl) (by unfold maxLen; omega) (by omega) (by simp; omega) ?_; intro v6 w6 hown6 hgrow6 _; have HO6 := Hid.mk' hown6; have HB6 := Hid.mk' (HB3.out.grown hgrow6 HB3.out.size HLT.out); clear hown6 hgrow6))
          go_roundw
          case rel => exact ⟨j + 1, MN, by go_num, by omega, HSN, by show w6.ownsRow _ _ _ _ _ _; rw [HLN.out, HFN.out]; exact HO6.out, HB6.out⟩
          case measure => simp [intOf]; omega
        · have hS := HS.out
          rw [List.drop_eq_nil_of_le (by omega)] at hS
          have HS3 : Hid (Waits w (n + 1) R M 0 0) := hS
          clear HMM HSM HS hS hi hz0 hz1 hz2
          go_wp2
          go_roundw
          case rel => exact ⟨n + 1, M, by go_num, by omega, HS3, HO, hbr⟩
          case measure => simp [intOf]; omega
end Go.Proofs.YtjjoedkigjekcaaGreatDoor

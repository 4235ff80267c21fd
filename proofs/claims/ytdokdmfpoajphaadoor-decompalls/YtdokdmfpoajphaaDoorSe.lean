/-
  What is proved here: what the reference's All answers, where its Order answers orderM.
-/
import Derived.Test.YtdokdmfpoajphaaDoorKT
import Derived.Deep.AppendLies
import Derived.Deep.RegionHeld3
namespace Go.Proofs.YtdokdmfpoajphaaDoor
open Go.RowKit Go.Sort

theorem row_cells {w : World} {B g gcap : Nat} {on : List Int} (ho : w.ownsRow B 21 1 (.slice (some ⟨g, 0, none⟩) on.length gcap) on.length (on.map (Value.int .i32))) : ∀ j u, (on.map (Value.int .i32))[j]? = some u → w.cell? ((⟨g, 0, none⟩ : Addr).add j) = some u := fun j u h => by
  have hj : j < on.length := by
    rcases Nat.lt_or_ge j on.length with q | q
    · exact q
    · rw [List.getElem?_eq_none (by simpa using q)] at h; cases h
  rw [Addr.add_lit, Nat.zero_add, ho.cellAt j (by omega)]
  exact h
set_option maxRecDepth 20000 in
set_option maxHeartbeats 4000000 in
theorem refAll_of (vr vc ve : Value) (rows : List Rw) (c : Int → Int) (v : Value) (l : List Int) (w : World) (hR : Rows4 w vr rows) (hl : rows.length ≤ 2000) (hc : ∀ i, i < rows.length → rowCode rows i = 0) (hor : ∀ W v rs, Below w.heap.size w W → Runes W v rs → rs.length ≤ 268435456 → Calls Tryd.prog 29 #[.agg #[vr, vc, ve], v] W fun e w' => ∃ v', e = .returned v' ∧ w'.ownsRow W.heap.size 21 1 v' rs.length ((orderM c rs).map (Value.int .i32)) ∧ Below W.heap.size W w') (hv : Runes w v l) (hbig : (apartM rows l).length ≤ 200000000) (hll : l.length ≤ 200000000) :
    Calls Tryd.prog 27 #[.agg #[vr, vc, ve], v] w fun e w' => ∃ v', e = .returned v' ∧ w'.ownsRow w.heap.size 21 1 v' (apartM rows l).length ((orderM c (apartM rows l)).map (Value.int .i32)) ∧ Below w.heap.size w w' := by
  obtain ⟨i0, hi, hz0, hz1, hz2⟩ := info_parts Tryd.infoRune
  obtain ⟨W0, hW0, hsz, hb0, e0, e1, e2⟩ := norm_box w vr vc ve
  have HON : Hid (∀ W r, Below w.heap.size w W → _) := fun W r hb => refOne_any vr vc ve rows hl hc r W (hR.below hb)
  have HOR := Hid.mk' hor
  have HEE : Hid (∀ W, Below (w.heap.size + 1) W0 W → (W.cell? ⟨w.heap.size, 0, none⟩ = some vr ∧ W.cell? ⟨w.heap.size, 1, none⟩ = some vc ∧ W.cell? ⟨w.heap.size, 2, none⟩ = some ve) ∧ Below w.heap.size w W) := fun W hb => ⟨⟨(hb.cell (p := ⟨w.heap.size, 0, none⟩) (Nat.lt_succ_self _)).trans e0, (hb.cell (p := ⟨w.heap.size, 1, none⟩) (Nat.lt_succ_self _)).trans e1, (hb.cell (p := ⟨w.heap.size, 2, none⟩) (Nat.lt_succ_self _)).trans e2⟩, hb0.trans (hb.mono (Nat.le_succ _))⟩
  have HV : Hid (∀ W, Below w.heap.size w W → Runes W v l) := fun W hb => hv.below hb
  have HNX : Hid (∀ k, k < l.length → apartM rows (l.take (k + 1)) = apartM rows (l.take k) ++ oneM rows (l.getD k 0)) := fun k hk => apart_next rows l k hk
  have HLE : Hid (∀ k, (apartM rows (l.take k)).length ≤ 200000000) := fun k => Nat.le_trans (apart_le rows l k) hbig
  have HPO : Hid (∀ r, 0 < (oneM rows r).length) := fun r => oneM_pos rows r
  have HALL : Hid (apartM rows (l.take l.length) = apartM rows l) := by show _ = _; rw [List.take_length]
  obtain ⟨va, vcp, rfl, -⟩ := id hv
  generalize hres : apartM rows l = res at *
  clear hR hc hor hv hres e1 e2
  go_enter Tryd.func27, Tryd.ntmps27
  go_wp2
  go_loopw [5, 6] (fun bv x wr => ∃ k : Nat, x = .int .i64 k ∧ k ≤ l.length ∧ Hid (wr.ownsRow (w.heap.size + 1) 21 1 bv (apartM rows (l.take k)).length ((apartM rows (l.take k)).map (Value.int .i32))) ∧ Hid (Below (w.heap.size + 1) W0 wr)) (fun _ x _ => l.length - (intOf x).toNat)
  case atStart => exact ⟨0, rfl, Nat.zero_le _, World.ownsRow_nil _ _ _ _, by rw [← hsz]; exact Below.refl _ _⟩
  case round =>
    clear e0
    obtain ⟨k, rfl, hk, HO, HB⟩ := hrel
    obtain ⟨⟨x0, x1, x2⟩, hbw⟩ := HEE.out wr HB.out
    have hszr : w.heap.size + 1 ≤ wr.heap.size := by have := HB.out.size; omega
    obtain ⟨ba, bcap, rfl⟩ := own_slice HO.out
    by_cases hlt : k < l.length
    · obtain ⟨va', vcp', ee, hvj⟩ := HV.out wr hbw
      obtain ⟨rfl, rfl⟩ : va = va' ∧ vcp = vcp' := by simpa using ee
      obtain ⟨b, off, rfl, ck⟩ := hvj k hlt
      have HO1 := Hid.mk' (HON.out wr.drew (l.getD k 0) hbw.drew)
      have hnx := Hid.mk' (HNX.out k hlt)
      have hle1 := HLE.out k
      have hle2 := HLE.out (k + 1)
      rw [hnx.out, List.length_append] at hle2
      have hpo := HPO.out (l.getD k 0)
      have HCK : Hid (∀ W, Below w.heap.size w W → W.cell? ⟨b, off + k, none⟩ = some (.int .i32 (l.getD k 0))) := fun W hb => by
        obtain ⟨va2, vcp2, ee2, hvj2⟩ := HV.out W hb
        obtain ⟨b2, off2, e3, ck2⟩ := hvj2 k hlt
        have e4 : va2 = some ⟨b, off, none⟩ := by simpa using (congrArg (fun v => match v with | Value.slice a _ _ => a | _ => none) ee2).symm
        obtain ⟨rfl, rfl⟩ : b = b2 ∧ off = off2 := by rw [e4] at e3; simpa using e3
        exact ck2
      clear ee hvj
      generalize l.getD k 0 = r at *
      generalize hone : oneM rows r = on at *
      have hklz : (k : Int) < (l.length : Int) := by omega
      go_wp2
      go_region_held3 (fun w' => (w'.cell? ⟨w.heap.size, 0, none⟩ = some vr ∧ w'.cell? ⟨w.heap.size, 1, none⟩ = some vc ∧ w'.cell? ⟨w.heap.size, 2, none⟩ = some ve) ∧ w'.cell? ⟨b, off + k, none⟩ = some (.int .i32 r)) (first | exact ⟨⟨x0, x1, x2⟩, ck⟩ | exact ⟨⟨z0, z1, z2⟩, z3⟩ | exact ⟨⟨y0, y1, y2⟩, y3⟩ | go_keep) (first
        | (go_at_call 50; refine HO1.out.mono ?_; rintro e w1 ⟨v1, rfl, ho1, hb1⟩; obtain ⟨g, gcap, rfl, hg0, hglt⟩ := ho1.form hpo; have hbw1 : Below (w.heap.size + 1) W0 w1 := HB.out.drew.trans (hb1.mono hszr); obtain ⟨⟨z0, z1, z2⟩, hbww1⟩ := HEE.out w1 hbw1; have z3 := HCK.out w1 hbww1)
        | (refine step_append_lies _ (by rfl) _ _ 24 (by rfl) (w.heap.size + 1) 21 i0 (.int .i32 0) 1 4 Tryd.underlying24 hi hz0 hz1 hz2 rfl (by decide) (.slice ba (apartM rows (l.take k)).length bcap) (apartM rows (l.take k)).length ((apartM rows (l.take k)).map (Value.int .i32)) (by rfl) (owns_below HO.out.drew hb1) ⟨g, 0, none⟩ on.length gcap (on.map (Value.int .i32)) (by rfl) (by simp) (row_cells ho1) (ints_one .i32 on) hpo (by unfold maxLen; omega) (by omega) (by have := hb1.size; simp at this; omega) _ rfl ?_; intro g2 cap2 w2 hown' hgrow hat hlt2; have hbw2 : Below (w.heap.size + 1) W0 w2 := hbw1.grown hgrow (by have := hb1.size; simp at this; omega) (fun j hj => ((owns_below HO.out.drew hb1).lt j hj).1); obtain ⟨⟨y0, y1, y2⟩, hbww2⟩ := HEE.out w2 hbw2; have y3 := HCK.out w2 hbww2))
      all_goals
        have HB2 := Hid.mk' hbw2
        have HO2 : Hid (w2.ownsRow (w.heap.size + 1) 21 1 (.slice (some ⟨g2, 0, none⟩) ((apartM rows (l.take k)).length + on.length) cap2) (apartM rows (l.take (k + 1))).length ((apartM rows (l.take (k + 1))).map (Value.int .i32))) := by
          rw [hnx.out]
          refine Hid.mk' ?_
          simpa using hown'
        clear hown' hgrow hat
        go_wp2
        go_roundw
        case rel => exact ⟨k + 1, by go_num, by omega, HO2, HB2⟩
        case measure => simp [intOf]; omega
    · obtain rfl : k = l.length := by omega
      rw [HALL.out] at HO
      have HC := Hid.mk' (HOR.out wr _ res hbw (Runes.own HO.out) (by omega))
      clear HON HOR HEE HV HNX HLE HPO
      rw [HALL.out]
      go_wp2_with fail
      refine HC.out.mono ?_
      rintro e w1 ⟨v1, rfl, ho1, hb1⟩
      obtain ⟨ca, ccap, rfl⟩ := own_slice ho1
      have HO1 := Hid.mk' (own_weaken (B := w.heap.size) ho1 hbw.size)
      have hb2 := hbw.trans (hb1.mono hbw.size)
      clear ho1
      go_wp2
      go_ret
      exact ⟨_, rfl, HO1.out, hb2⟩
end Go.Proofs.YtdokdmfpoajphaaDoor

/-
  What is proved here: what decomp.All answers. · plain mathematics that DecompAlls wants: classes are at most 254; how long runes taken apart are. · what slices.Equal and the laws' Same answer at runes, and what decomp.Is answers.
-/
import Derived.Test.YtoceaielclomcaaRRGreatDoorKSS
import Derived.Test.YtoceaielclomcaaRRGreatDoorE4
namespace Go.Proofs.YtoceaielclomcaaRRGreatDoor
open Go.RowKit Go.Sort

theorem oneIn_pos (l : List Rw) (k : Nat) (r : Int) : 0 < (oneIn l k r).length := by
  induction k generalizing r with
  | zero => simp [oneIn]
  | succ k ih =>
    rw [oneIn_succ]
    split
    · have := ih (rw_ l k).to0
      simp only [List.length_append]
      omega
    · exact ih r
theorem oneM_pos (l : List Rw) (r : Int) : 0 < (oneM l r).length := by
  unfold oneM
  split
  · unfold sylM; simp
  · exact oneIn_pos l _ r
/-- runes taken apart, as they stand -/
def apartM (l : List Rw) (rs : List Int) : List Int := rs.flatMap (oneM l)
theorem apart_next (l : List Rw) (rs : List Int) (k : Nat) (hk : k < rs.length) : apartM l (rs.take (k + 1)) = apartM l (rs.take k) ++ oneM l (rs.getD k 0) := by
  unfold apartM
  rw [List.take_add_one, List.flatMap_append]
  congr 1
  simp [List.getD, List.getElem?_eq_getElem hk]
theorem apart_le (l : List Rw) (rs : List Int) (k : Nat) : (apartM l (rs.take k)).length ≤ (apartM l rs).length := by
  have : apartM l rs = apartM l (rs.take k) ++ apartM l (rs.drop k) := by
    unfold apartM
    rw [← List.flatMap_append, List.take_append_drop]
  rw [this]
  simp
set_option maxRecDepth 20000 in
set_option maxHeartbeats 4000000 in
theorem all_any (a : Option Addr) (cap : Nat) (vc ve : Value) (rows : List Rw) (hcap : rows.length ≤ cap) (cl : List Rg) (v : Value) (l : List Int) (w : World) (hg : Hg w) (hR : Rows4 w (.slice a rows.length cap) rows) (hl : rows.length ≤ 2000) (hc : ∀ i, i < rows.length → rowCode rows i = 0) (hT : Tab w vc cl) (hcl : cl.length ≤ 2147483648) (hm : Rises cl) (ha : Apart cl) (hv : Runes w v l) (hbig : (apartM rows l).length ≤ 200000000) (hll : l.length ≤ 200000000) :
    Calls Tryz.prog 59 #[.agg #[.slice a rows.length cap, vc, ve], v] w fun e w' => ∃ v', e = .returned v' ∧ w'.ownsRow w.heap.size 21 1 v' (apartM rows l).length ((orderM (classOf cl) (apartM rows l)).map (Value.int .i32)) ∧ Below w.heap.size w w' := by
  obtain ⟨i0, hi, hz0, hz1, hz2⟩ := info_parts Tryz.infoRune
  obtain ⟨W0, hW0, hsz, hb0, e0, e1, e2⟩ := norm_box w (.slice a rows.length cap) vc ve
  have HON : Hid (∀ W r, Below w.heap.size w W → _) := fun W r hb => one_any a cap vc ve rows hcap r W (hg.below hb) (hR.below hb) hl hc
  have HOR : Hid (∀ W v rs, Below w.heap.size w W → Runes W v rs → rs.length ≤ 268435456 → _) := fun W v rs hb hr hrl => order_any (.slice a rows.length cap) vc ve cl v rs W (hT.below hb) hcl hm ha hr hrl
  have HEE : Hid (∀ W, Below (w.heap.size + 1) W0 W → (W.cell? ⟨w.heap.size, 0, none⟩ = some (.slice a rows.length cap) ∧ W.cell? ⟨w.heap.size, 1, none⟩ = some vc ∧ W.cell? ⟨w.heap.size, 2, none⟩ = some ve) ∧ Below w.heap.size w W) := fun W hb => ⟨⟨(hb.cell (p := ⟨w.heap.size, 0, none⟩) (Nat.lt_succ_self _)).trans e0, (hb.cell (p := ⟨w.heap.size, 1, none⟩) (Nat.lt_succ_self _)).trans e1, (hb.cell (p := ⟨w.heap.size, 2, none⟩) (Nat.lt_succ_self _)).trans e2⟩, hb0.trans (hb.mono (Nat.le_succ _))⟩
  have HV : Hid (∀ W, Below w.heap.size w W → Runes W v l) := fun W hb => hv.below hb
  have HNX : Hid (∀ k, k < l.length → apartM rows (l.take (k + 1)) = apartM rows (l.take k) ++ oneM rows (l.getD k 0)) := fun k hk => apart_next rows l k hk
  have HLE : Hid (∀ k, (apartM rows (l.take k)).length ≤ 200000000) := fun k => Nat.le_trans (apart_le rows l k) hbig
  have HPO : Hid (∀ r, 0 < (oneM rows r).length) := fun r => oneM_pos rows r
  have HALL : Hid (apartM rows (l.take l.length) = apartM rows l) := by show _ = _; rw [List.take_length]
  obtain ⟨va, vcp, rfl, -⟩ := id hv
  generalize hres : apartM rows l = res at *
  clear hg hR hc hT hm ha hv hres e1 e2
  go_enter Tryz.func59, Tryz.ntmps59
  go_wp2
  go_loopw [5, 10] (fun bv x wr => ∃ k : Nat, x = .int .i64 k ∧ k ≤ l.length ∧ Hid (wr.ownsRow (w.heap.size + 1) 21 1 bv (apartM rows (l.take k)).length ((apartM rows (l.take k)).map (Value.int .i32))) ∧ Hid (Below (w.heap.size + 1) W0 wr)) (fun _ x _ => l.length - (intOf x).toNat)
  case atStart => exact ⟨0, rfl, Nat.zero_le _, World.ownsRow_nil _ _ _ _, by rw [← hsz]; exact Below.refl _ _⟩
  case round =>
    clear e0
    obtain ⟨k, rfl, hk, HO, HB⟩ := hrel
    obtain ⟨⟨x0, x1, x2⟩, hbw⟩ := HEE.out wr HB.out
    have hszr : w.heap.size + 1 ≤ wr.heap.size := by have := HB.out.size; omega
    obtain ⟨ba, bcap, rfl⟩ := own_slice HO.out
    by_cases hlt : k < l.length
    · obtain ⟨va', vcp', ee, hvj⟩ := HV.out wr hbw
      obtain ⟨rfl, rfl⟩ : va = va' ∧ vcp = vcp' := by simpa using ee
      obtain ⟨b, off, rfl, ck⟩ := hvj k hlt
      have HO1 := Hid.mk' (HON.out wr (l.getD k 0) hbw)
      have hnx := Hid.mk' (HNX.out k hlt)
      have hle1 := HLE.out k
      have hle2 := HLE.out (k + 1)
      rw [hnx.out, List.length_append] at hle2
      have hpo := HPO.out (l.getD k 0)
      clear ee hvj
      generalize l.getD k 0 = r at *
      generalize hone : oneM rows r = on at *
      have hklz : (k : Int) < (l.length : Int) := by omega
      go_wp2_with fail
      refine HO1.out.mono ?_
      rintro e w1 ⟨v1, rfl, ho1, hb1⟩
      rcases ho1.2 with ⟨-, h0⟩ | ⟨g, gcap, cur, rfl, hg0, -, -, -, -, -⟩
      · omega
      have hcell : ∀ j u, (on.map (Value.int .i32))[j]? = some u → w1.cell? ((⟨g, 0, none⟩ : Addr).add j) = some u := fun j u h => by
        have hj : j < on.length := by
          rcases Nat.lt_or_ge j on.length with q | q
          · exact q
          · rw [List.getElem?_eq_none (by simpa using q)] at h; cases h
        rw [Addr.add_lit, Nat.zero_add, ho1.cellAt j (by omega)]
        exact h
      have ho2 := Hid.mk' (owns_below HO.out hb1)
      have HVC := Hid.mk' hcell
      have hbw1 : Below (w.heap.size + 1) W0 w1 := HB.out.trans (hb1.mono hszr)
      have HB1 := Hid.mk' hbw1
      have hs1 := hb1.size
      clear hcell ho1 hb1 HO1 hbw1 ck x0 x1 x2
      go_wp2_with (at_builtin; (refine wpList_append_own _ rfl _ _ 37 rfl (w.heap.size + 1) 21 i0 (.int .i32 0) 1 4 Tryz.underlying37 hi hz0 hz1 hz2 rfl (by decide) _ _ _ rfl ho2.out ⟨g, 0, none⟩ on.length gcap (on.map (Value.int .i32)) rfl (by simp) HVC.out (ints_one .i32 on) (by unfold maxLen; omega) (by omega) (by omega) ?_; intro v' w2 hown' hgrow _))
      have HB2 : Hid (Below (w.heap.size + 1) W0 w2) := HB1.out.grown hgrow (by omega) (fun j hj => (ho2.out.lt j hj).1)
      have HO2 : Hid (w2.ownsRow (w.heap.size + 1) 21 1 v' (apartM rows (l.take (k + 1))).length ((apartM rows (l.take (k + 1))).map (Value.int .i32))) := by
        rw [hnx.out]
        refine Hid.mk' ?_
        simpa using hown'
      clear hown' hgrow
      go_wp2
      go_roundw
      case rel => exact ⟨k + 1, by go_num, by omega, HO2, HB2⟩
      case measure => simp [intOf]; omega
    · obtain rfl : k = l.length := by omega
      rw [HALL.out] at HO
      have HC := Hid.mk' (HOR.out wr _ res hbw (Runes.own HO.out) (by omega))
      clear HON HOR HEE HV HNX HLE HPO
      rw [HALL.out]
      go_wp2_with fail
      refine HC.out.mono ?_
      rintro e w1 ⟨v1, rfl, ho1, hb1⟩
      obtain ⟨ca, ccap, rfl⟩ := own_slice ho1
      have HO1 := Hid.mk' (own_weaken (B := w.heap.size) ho1 hbw.size)
      have hb2 := hbw.trans (hb1.mono hbw.size)
      clear ho1
      go_wp2
      go_ret
      exact ⟨_, rfl, HO1.out, hb2⟩
end Go.Proofs.YtoceaielclomcaaRRGreatDoor
namespace Go.Proofs.YtoceaielclomcaaRRGreatDoor

theorem class_254 {l : List Rg} (h : ∀ i, i < l.length → clsCode l i = 0) (r : Int) : classOf l r ≤ 254 := by
  unfold classOf find
  cases hf : l.find? fun x => decide (x.lo ≤ r) && decide (r ≤ x.hi) with
  | none => simp
  | some x =>
    have hm := List.mem_of_find?_eq_some hf
    obtain ⟨i, hi, rfl⟩ := List.mem_iff_getElem.1 hm
    have := h i hi
    unfold clsCode at this
    have e : l.getD i default = l[i] := by simp [List.getD, List.getElem?_eq_getElem hi]
    rw [e] at this
    simp only [Option.map_some, Option.getD_some]
    split at this
    · omega
    · cases this
theorem apart_len {rows : List Rw} (hc : ∀ i, i < rows.length → rowCode rows i = 0) (l : List Int) : (apartM rows l).length ≤ l.length * (rows.length + 3) := by
  induction l with
  | nil => simp [apartM]
  | cons x l ih =>
    have e : apartM rows (x :: l) = oneM rows x ++ apartM rows l := by unfold apartM; rw [List.flatMap_cons]
    have := oneM_len hc x
    rw [e, List.length_append, List.length_cons, Nat.succ_mul]
    omega
end Go.Proofs.YtoceaielclomcaaRRGreatDoor
namespace Go.Proofs.YtoceaielclomcaaRRGreatDoor
open Go.RowKit Go.Sort

theorem beq_at {xs ys : List Int} {k : Nat} (h : xs.getD k 0 ≠ ys.getD k 0) : (xs == ys) = false := by
  rw [beq_eq_false_iff_ne]
  rintro rfl
  exact h rfl
theorem beq_all {xs ys : List Int} (hl : xs.length = ys.length) (h : ∀ k, k < xs.length → xs.getD k 0 = ys.getD k 0) : (xs == ys) = true := by
  rw [beq_iff_eq]
  apply List.ext_getElem hl
  intro i h1 h2
  have := h i h1
  simpa [List.getD, List.getElem?_eq_getElem h1, List.getElem?_eq_getElem h2] using this
theorem beq_len {xs ys : List Int} (hl : xs.length ≠ ys.length) : (xs == ys) = false := by
  rw [beq_eq_false_iff_ne]
  rintro rfl
  exact hl rfl
set_option maxHeartbeats 2000000 in
theorem sameB_any (va vb : Value) (xs ys : List Int) (w : World) (hx : xs.length ≤ 268435456) (ha : Runes w va xs) (hb : Runes w vb ys) :
    Calls Tryz.prog 33 #[va, vb] w fun e w' => e = .returned (.bool (xs == ys)) ∧ Below w.heap.size w w' := by
  obtain ⟨a, ca, rfl, ha⟩ := ha
  obtain ⟨b, cb, rfl, hb⟩ := hb
  have HLN : Hid (xs.length ≠ ys.length → (xs == ys) = false) := beq_len
  have HNE : Hid (xs.length = ys.length → ∀ k, k < xs.length → xs.getD k 0 ≠ ys.getD k 0 → (xs == ys) = false) := fun _ _ _ hn => beq_at hn
  have HEQ : Hid (xs.length = ys.length → (∀ k, k < xs.length → xs.getD k 0 = ys.getD k 0) → (xs == ys) = true) := fun h h' => beq_all h h'
  have HA := Hid.mk' ha
  have HB := Hid.mk' hb
  clear ha hb
  generalize (xs == ys) = res at *
  by_cases hl : xs.length = ys.length
  · have hne := Hid.mk' (HNE.out hl)
    have heq := Hid.mk' (HEQ.out hl)
    rw [← hl] at HB ⊢
    have HL := Hid.mk' hl
    clear HLN HNE HEQ hl
    generalize hn : xs.length = n at *
    go_enter Tryz.func33, Tryz.ntmps33
    go_wp2
    go_loopw [5] (fun x wr => ∃ k : Nat, x = .int .i64 k ∧ k ≤ n ∧ Hid (∀ i, i < k → xs.getD i 0 = ys.getD i 0) ∧ Below w.heap.size w wr) (fun x _ => n - (intOf x).toNat)
    case atStart => exact ⟨0, rfl, Nat.zero_le _, fun i hi => by omega, Below.refl _ _⟩
    case round =>
      obtain ⟨k, rfl, hk, h0, hbel⟩ := hrel
      by_cases hlt : k < n
      · obtain ⟨ba, oa, rfl, ca0⟩ := HA.out k hlt
        obtain ⟨bb, ob, rfl, cb0⟩ := HB.out k hlt
        have hca := (hbel.cell (p := ⟨ba, oa + k, none⟩) (lt_of_cell ca0)).trans ca0
        have hcb := (hbel.cell (p := ⟨bb, ob + k, none⟩) (lt_of_cell cb0)).trans cb0
        have HN : Hid (xs.getD k 0 ≠ ys.getD k 0 → res = false) := fun h => hne.out k hlt h
        have HU : Hid (xs.getD k 0 = ys.getD k 0 → ∀ i, i < k + 1 → xs.getD i 0 = ys.getD i 0) := fun h i hi => by
          rcases Nat.lt_or_ge i k with q | q
          · exact h0.out i q
          · obtain rfl : i = k := by omega
            exact h
        clear ca0 cb0
        generalize xs.getD k 0 = x at hca HN HU
        generalize ys.getD k 0 = y at hcb HN HU
        have hkz : (k : Int) < (n : Int) := by omega
        by_cases hxy : x = y
        · have hu := Hid.mk' (HU.out hxy)
          have hd : (x != y) = false := by simp [hxy]
          clear hxy HN HU
          go_wp2
          go_region
          go_wp2
          go_roundw
          case rel => exact ⟨k + 1, by go_num, by omega, hu, hbel.drew⟩
          case measure => simp [intOf]; omega
        · have hr := Hid.mk' (HN.out hxy)
          have hd : (x != y) = true := by simp [hxy]
          clear hxy HN HU
          go_wp2
          go_region
          go_wp2
          go_ret
          exact ⟨ret_bool hr.out.symm, hbel.drew⟩
      · obtain rfl : k = n := by omega
        have hr := Hid.mk' (heq.out h0.out)
        go_wp2
        go_ret
        exact ⟨ret_bool hr.out.symm, hbel⟩
  · have hr := Hid.mk' (HLN.out hl)
    have hd : ((xs.length : Int) != (ys.length : Int)) = true := by simp; omega
    clear HLN HNE HEQ hl
    generalize xs.length = n at *
    generalize ys.length = m at *
    go_enter Tryz.func33, Tryz.ntmps33
    go_wp2
    go_ret
    exact ⟨ret_bool hr.out.symm, Below.refl _ _⟩
end Go.Proofs.YtoceaielclomcaaRRGreatDoor

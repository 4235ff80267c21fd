/-
  What is proved here: what slices.Equal and the laws' Same answer at runes, and what decomp.Is answers.
-/
import Derived.Test.YtojpkkbagcahdaaDoorSb
namespace Go.Proofs.YtojpkkbagcahdaaDoor
open Go.RowKit Go.Sort

theorem beq_at {xs ys : List Int} {k : Nat} (h : xs.getD k 0 ≠ ys.getD k 0) : (xs == ys) = false := by
  rw [beq_eq_false_iff_ne]
  rintro rfl
  exact h rfl
theorem beq_all {xs ys : List Int} (hl : xs.length = ys.length) (h : ∀ k, k < xs.length → xs.getD k 0 = ys.getD k 0) : (xs == ys) = true := by
  rw [beq_iff_eq]
  apply List.ext_getElem hl
  intro i h1 h2
  have := h i h1
  simpa [List.getD, List.getElem?_eq_getElem h1, List.getElem?_eq_getElem h2] using this
theorem beq_len {xs ys : List Int} (hl : xs.length ≠ ys.length) : (xs == ys) = false := by
  rw [beq_eq_false_iff_ne]
  rintro rfl
  exact hl rfl
set_option maxHeartbeats 2000000 in
theorem equal_any (va vb : Value) (xs ys : List Int) (w : World) (hx : xs.length ≤ 268435456) (ha : Runes w va xs) (hb : Runes w vb ys) :
    Calls Tryd.prog 33 #[va, vb] w fun e w' => e = .returned (.bool (xs == ys)) ∧ Below w.heap.size w w' := by
  obtain ⟨a, ca, rfl, ha⟩ := ha
  obtain ⟨b, cb, rfl, hb⟩ := hb
  have HLN : Hid (xs.length ≠ ys.length → (xs == ys) = false) := beq_len
  have HNE : Hid (xs.length = ys.length → ∀ k, k < xs.length → xs.getD k 0 ≠ ys.getD k 0 → (xs == ys) = false) := fun _ _ _ hn => beq_at hn
  have HEQ : Hid (xs.length = ys.length → (∀ k, k < xs.length → xs.getD k 0 = ys.getD k 0) → (xs == ys) = true) := fun h h' => beq_all h h'
  have HA := Hid.mk' ha
  have HB := Hid.mk' hb
  clear ha hb
  generalize (xs == ys) = res at *
  by_cases hl : xs.length = ys.length
  · have hne := Hid.mk' (HNE.out hl)
    have heq := Hid.mk' (HEQ.out hl)
    rw [← hl] at HB ⊢
    have HL := Hid.mk' hl
    clear HLN HNE HEQ hl
    generalize hn : xs.length = n at *
    go_enter Tryd.func33, Tryd.ntmps33
    go_wp2
    go_loopw [13] (fun x wr => ∃ k : Nat, x = .int .i64 k ∧ k ≤ n ∧ Hid (∀ i, i < k → xs.getD i 0 = ys.getD i 0) ∧ Below w.heap.size w wr) (fun x _ => n - (intOf x).toNat)
    case atStart => exact ⟨0, rfl, Nat.zero_le _, fun i hi => by omega, Below.refl _ _⟩
    case round =>
      obtain ⟨k, rfl, hk, h0, hbel⟩ := hrel
      by_cases hlt : k < n
      · obtain ⟨ba, oa, rfl, ca0⟩ := HA.out k hlt
        obtain ⟨bb, ob, rfl, cb0⟩ := HB.out k hlt
        have hca := (hbel.cell (p := ⟨ba, oa + k, none⟩) (lt_of_cell ca0)).trans ca0
        have hcb := (hbel.cell (p := ⟨bb, ob + k, none⟩) (lt_of_cell cb0)).trans cb0
        have HN : Hid (xs.getD k 0 ≠ ys.getD k 0 → res = false) := fun h => hne.out k hlt h
        have HU : Hid (xs.getD k 0 = ys.getD k 0 → ∀ i, i < k + 1 → xs.getD i 0 = ys.getD i 0) := fun h i hi => by
          rcases Nat.lt_or_ge i k with q | q
          · exact h0.out i q
          · obtain rfl : i = k := by omega
            exact h
        clear ca0 cb0
        generalize xs.getD k 0 = x at hca HN HU
        generalize ys.getD k 0 = y at hcb HN HU
        have hkz : (k : Int) < (n : Int) := by omega
        by_cases hxy : x = y
        · have hu := Hid.mk' (HU.out hxy)
          have hd : (x != y) = false := by simp [hxy]
          clear hxy HN HU
          go_wp2
          go_region
          go_wp2
          go_roundw
          case rel => exact ⟨k + 1, by go_num, by omega, hu, hbel.drew⟩
          case measure => simp [intOf]; omega
        · have hr := Hid.mk' (HN.out hxy)
          have hd : (x != y) = true := by simp [hxy]
          clear hxy HN HU
          go_wp2
          go_region
          go_wp2
          go_ret
          exact ⟨ret_bool hr.out.symm, hbel.drew⟩
      · obtain rfl : k = n := by omega
        have hr := Hid.mk' (heq.out h0.out)
        go_wp2
        go_ret
        exact ⟨ret_bool hr.out.symm, hbel⟩
  · have hr := Hid.mk' (HLN.out hl)
    have hd : ((xs.length : Int) != (ys.length : Int)) = true := by simp; omega
    clear HLN HNE HEQ hl
    generalize xs.length = n at *
    generalize ys.length = m at *
    go_enter Tryd.func33, Tryd.ntmps33
    go_wp2
    go_ret
    exact ⟨ret_bool hr.out.symm, Below.refl _ _⟩
set_option maxHeartbeats 2000000 in
theorem sameB_any (va vb : Value) (xs ys : List Int) (w : World) (hx : xs.length ≤ 268435456) (ha : Runes w va xs) (hb : Runes w vb ys) :
    Calls Tryd.prog 14 #[va, vb] w fun e w' => e = .returned (.bool (xs == ys)) ∧ Below w.heap.size w w' := by
  obtain ⟨a, ca, rfl, ha⟩ := ha
  obtain ⟨b, cb, rfl, hb⟩ := hb
  have HLN : Hid (xs.length ≠ ys.length → (xs == ys) = false) := beq_len
  have HNE : Hid (xs.length = ys.length → ∀ k, k < xs.length → xs.getD k 0 ≠ ys.getD k 0 → (xs == ys) = false) := fun _ _ _ hn => beq_at hn
  have HEQ : Hid (xs.length = ys.length → (∀ k, k < xs.length → xs.getD k 0 = ys.getD k 0) → (xs == ys) = true) := fun h h' => beq_all h h'
  have HA := Hid.mk' ha
  have HB := Hid.mk' hb
  clear ha hb
  generalize (xs == ys) = res at *
  by_cases hl : xs.length = ys.length
  · have hne := Hid.mk' (HNE.out hl)
    have heq := Hid.mk' (HEQ.out hl)
    rw [← hl] at HB ⊢
    have HL := Hid.mk' hl
    clear HLN HNE HEQ hl
    generalize hn : xs.length = n at *
    go_enter Tryd.func14, Tryd.ntmps14
    go_wp2
    go_loopw [5] (fun x wr => ∃ k : Nat, x = .int .i64 k ∧ k ≤ n ∧ Hid (∀ i, i < k → xs.getD i 0 = ys.getD i 0) ∧ Below w.heap.size w wr) (fun x _ => n - (intOf x).toNat)
    case atStart => exact ⟨0, rfl, Nat.zero_le _, fun i hi => by omega, Below.refl _ _⟩
    case round =>
      obtain ⟨k, rfl, hk, h0, hbel⟩ := hrel
      by_cases hlt : k < n
      · obtain ⟨ba, oa, rfl, ca0⟩ := HA.out k hlt
        obtain ⟨bb, ob, rfl, cb0⟩ := HB.out k hlt
        have hca := (hbel.cell (p := ⟨ba, oa + k, none⟩) (lt_of_cell ca0)).trans ca0
        have hcb := (hbel.cell (p := ⟨bb, ob + k, none⟩) (lt_of_cell cb0)).trans cb0
        have HN : Hid (xs.getD k 0 ≠ ys.getD k 0 → res = false) := fun h => hne.out k hlt h
        have HU : Hid (xs.getD k 0 = ys.getD k 0 → ∀ i, i < k + 1 → xs.getD i 0 = ys.getD i 0) := fun h i hi => by
          rcases Nat.lt_or_ge i k with q | q
          · exact h0.out i q
          · obtain rfl : i = k := by omega
            exact h
        clear ca0 cb0
        generalize xs.getD k 0 = x at hca HN HU
        generalize ys.getD k 0 = y at hcb HN HU
        have hkz : (k : Int) < (n : Int) := by omega
        by_cases hxy : x = y
        · have hu := Hid.mk' (HU.out hxy)
          have hd : (x != y) = false := by simp [hxy]
          clear hxy HN HU
          go_wp2
          go_region
          go_wp2
          go_roundw
          case rel => exact ⟨k + 1, by go_num, by omega, hu, hbel.drew⟩
          case measure => simp [intOf]; omega
        · have hr := Hid.mk' (HN.out hxy)
          have hd : (x != y) = true := by simp [hxy]
          clear hxy HN HU
          go_wp2
          go_region
          go_wp2
          go_ret
          exact ⟨ret_bool hr.out.symm, hbel.drew⟩
      · obtain rfl : k = n := by omega
        have hr := Hid.mk' (heq.out h0.out)
        go_wp2
        go_ret
        exact ⟨ret_bool hr.out.symm, hbel⟩
  · have hr := Hid.mk' (HLN.out hl)
    have hd : ((xs.length : Int) != (ys.length : Int)) = true := by simp; omega
    clear HLN HNE HEQ hl
    generalize xs.length = n at *
    generalize ys.length = m at *
    go_enter Tryd.func14, Tryd.ntmps14
    go_wp2
    go_ret
    exact ⟨ret_bool hr.out.symm, Below.refl _ _⟩
set_option maxHeartbeats 2000000 in
theorem is_any (a : Option Addr) (cap : Nat) (vc ve : Value) (rows : List Rw) (hcap : rows.length ≤ cap) (cl : List Rg) (v : Value) (l : List Int) (w : World) (hg : Hg w) (hR : Rows4 w (.slice a rows.length cap) rows) (hl : rows.length ≤ 2000) (hc : ∀ i, i < rows.length → rowCode rows i = 0) (hT : Tab w vc cl) (hcl : cl.length ≤ 2147483648) (hm : Rises cl) (ha : Apart cl) (hv : Runes w v l) (hbig : (apartM rows l).length ≤ 200000000) (hll : l.length ≤ 200000000) :
    Calls Tryd.prog 13 #[.agg #[.slice a rows.length cap, vc, ve], v] w fun e w' => e = .returned (.bool (orderM (classOf cl) (apartM rows l) == l)) ∧ Below w.heap.size w w' := by
  obtain ⟨W0, hW0, hsz, hb0, e0, e1, e2⟩ := norm_box w (.slice a rows.length cap) vc ve
  have HAL := Hid.mk' (all_any a cap vc ve rows hcap cl v l W0 (hg.below hb0) (hR.below hb0) hl hc (hT.below hb0) hcl hm ha (hv.below hb0) hbig hll)
  have hpl : (orderM (classOf cl) (apartM rows l)).length = (apartM rows l).length := (orderM_perm _ _).length_eq
  have HEQ : Hid (∀ W v1, Below W0.heap.size W0 W → Runes W v1 (orderM (classOf cl) (apartM rows l)) → _) := fun W v1 hb hr => equal_any v1 v (orderM (classOf cl) (apartM rows l)) l W (by omega) hr ((hv.below hb0).below hb)
  rw [← hpl] at HAL
  obtain ⟨va, vcp, rfl, -⟩ := id hv
  generalize orderM (classOf cl) (apartM rows l) = res at *
  clear hg hR hc hT hm ha hv hpl
  go_enter Tryd.func13, Tryd.ntmps13
  go_wp2_with fail
  refine HAL.out.mono ?_
  rintro e w1 ⟨v1, rfl, ho, hb1⟩
  have HE := Hid.mk' (HEQ.out w1 v1 hb1 (Runes.own ho))
  obtain ⟨ra, rcap, rfl⟩ := own_slice ho
  have hbw := hb0.trans (hb1.mono hb0.size)
  clear ho HEQ
  obtain ⟨bb, hbb⟩ : ∃ bb, (res == l) = bb := ⟨_, rfl⟩
  have HBB := Hid.mk' hbb
  rw [hbb] at HE
  clear hbb
  go_wp2_with fail
  refine HE.out.mono ?_
  rintro e w2 ⟨rfl, hb2⟩
  go_wp2
  go_ret
  exact ⟨ret_bool HBB.out.symm, hbw.trans (hb2.mono hbw.size)⟩
end Go.Proofs.YtojpkkbagcahdaaDoor

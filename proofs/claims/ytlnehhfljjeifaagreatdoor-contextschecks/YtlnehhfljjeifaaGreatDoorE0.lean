/-
  What is proved here: what the reference's Right, hangul, Row, ahead, excluded and Class answer.
-/
import Derived.Test.YtlnehhfljjeifaaGreatDoorA8
import Derived.Test.YtlnehhfljjeifaaGreatDoorA7
namespace Go.Proofs.YtlnehhfljjeifaaGreatDoor
open Go.RowKit

set_option maxHeartbeats 1000000 in
theorem refRight4_any (r : Int) (w : World) :
    Calls Tryz.prog 69 #[.int .i32 r] w fun e w' => e = .returned (.bool (rightR r)) ∧ w = w' := by
  go_enter Tryz.func69, Tryz.ntmps69
  go_wp2
  all_goals go_ret
  all_goals refine ⟨ret_bool ?_, rfl⟩
  all_goals (unfold rightR; rw [Bool.eq_iff_iff]; simp; omega)
set_option maxHeartbeats 1000000 in
theorem refHangul_any (r : Int) (w : World) :
    Calls Tryz.prog 68 #[.int .i32 r] w fun e w' => e = .returned (.bool (hang r)) ∧ w = w' := by
  go_enter Tryz.func68, Tryz.ntmps68
  go_wp2
  all_goals go_ret
  all_goals refine ⟨ret_bool ?_, rfl⟩
  all_goals (unfold hang; rw [Bool.eq_iff_iff]; simp; omega)
theorem sought_at {n k : Nat} {key : Nat → Int} {r : Int} (hk : k < n) (h : key k = r) : Sought n key r k := .inl ⟨k, rfl, hk, h⟩
theorem next_no {k : Nat} {key : Nat → Int} {r : Int} (h : ∀ i, i < k → key i ≠ r) (hn : key k ≠ r) : ∀ i, i < k + 1 → key i ≠ r := fun i hi => by
  rcases Nat.lt_or_ge i k with g | g
  · exact h i g
  · obtain rfl : i = k := by omega
    exact hn
/-- a norm's cells in new memory -/
theorem norm_box (w : World) (vr vc ve : Value) : ∃ W0, w.alloc (.cells #[vr, vc, ve] 39) = W0 ∧ W0.heap.size = w.heap.size + 1 ∧ Below w.heap.size w W0 ∧ W0.cell? ⟨w.heap.size, 0, none⟩ = some vr ∧ W0.cell? ⟨w.heap.size, 1, none⟩ = some vc ∧ W0.cell? ⟨w.heap.size, 2, none⟩ = some ve :=
  ⟨_, rfl, by rw [World.size_alloc], (Below.refl _ w).alloc (Nat.le_refl _) _, by rw [World.cell?_alloc_new]; rfl, by rw [World.cell?_alloc_new]; rfl, by rw [World.cell?_alloc_new]; rfl⟩
set_option maxHeartbeats 1000000 in
theorem refRow_any (vr vc ve : Value) (l : List Rw) (r : Int) (w : World) (hT : Rows4 w vr l) (hl : l.length ≤ 2147483648) :
    Calls Tryz.prog 99 #[.agg #[vr, vc, ve], .int .i32 r] w fun e w' => (∃ x, e = .returned (.int .i64 x) ∧ Sought l.length (fun i => (rw_ l i).fr) r x) ∧ Below w.heap.size w w' := by
  obtain ⟨W0, hW0, hsz, hb0, e0, e1, e2⟩ := norm_box w vr vc ve
  have hT' := hT.below hb0
  obtain ⟨a, cap, rfl, hTj⟩ := hT'
  have HT := Hid.mk' hTj
  clear hT hTj e1 e2
  go_enter Tryz.func99, Tryz.ntmps99
  go_wp2
  go_loop [5] (fun x => ∃ k : Nat, x = .int .i64 k ∧ k ≤ l.length ∧ Hid (∀ i, i < k → (rw_ l i).fr ≠ r)) (fun y => l.length - (intOf y).toNat)
  case atStart => exact ⟨0, rfl, Nat.zero_le _, fun i hi => by omega⟩
  case round =>
    obtain ⟨k, rfl, hk, h0⟩ := hrel
    by_cases hlt : k < l.length
    · obtain ⟨b, off, tv, rfl, d0, -, -⟩ := HT.out k hlt
      have HN : Hid ((rw_ l k).fr ≠ r → ∀ i, i < k + 1 → (rw_ l i).fr ≠ r) := fun hn => next_no (key := fun i => (rw_ l i).fr) h0.out hn
      have HY : Hid ((rw_ l k).fr = r → Sought l.length (fun i => (rw_ l i).fr) r k) := fun h => sought_at hlt h
      generalize (rw_ l k).fr = q at d0 HN HY
      by_cases hq : q = r
      · have hy := Hid.mk' (HY.out hq)
        have hqb : (q == r) = true := by simp [hq]
        clear hq
        go_wp2
        go_ret
        exact ⟨⟨_, rfl, hy.out⟩, hb0⟩
      · have hn := Hid.mk' (HN.out hq)
        have hqb : (q == r) = false := by simp [hq]
        clear hq
        go_wp2
        go_round
        case rel => exact ⟨k + 1, by go_num, by omega, hn⟩
        case measure => simp [intOf]; omega
    · obtain rfl : k = l.length := by omega
      go_wp2
      go_ret
      exact ⟨⟨_, rfl, .inr ⟨rfl, h0.out⟩⟩, hb0⟩
set_option maxHeartbeats 1000000 in
theorem refAhead_any (vr vc ve : Value) (l : List Rw) (i : Nat) (w : World) (hT : Rows4 w vr l) (hl : l.length ≤ 2147483648) (hi : i < l.length) (hto : 0 < (rw_ l i).to.length) :
    Calls Tryz.prog 100 #[.agg #[vr, vc, ve], .int .i64 i] w fun e w' => (∃ x, e = .returned (.int .i64 x) ∧ Sought i (fun j => (rw_ l j).fr) (rw_ l i).to0 x) ∧ Below w.heap.size w w' := by
  obtain ⟨W0, hW0, hsz, hb0, e0, e1, e2⟩ := norm_box w vr vc ve
  have hT' := hT.below hb0
  obtain ⟨a, cap, rfl, hTj⟩ := hT'
  obtain ⟨b, off, tv, rfl, -, d1, ta, tcap, rfl, hR⟩ := hTj i hi
  obtain ⟨tb, toff, rfl, c0⟩ := hR 0 hto
  rw [Nat.add_zero] at c0
  have h00 : (rw_ l i).to.getD 0 0 = (rw_ l i).to0 := rfl
  rw [h00] at c0
  have HT := Hid.mk' hTj
  have htl : (0 : Int) < ((rw_ l i).to.length : Int) := by omega
  have hil : (i : Int) < (l.length : Int) := by omega
  clear hT hTj e1 e2 h00 hR hto
  generalize (rw_ l i).to0 = t0 at *
  generalize (rw_ l i).to.length = tn at *
  go_enter Tryz.func100, Tryz.ntmps100
  go_wp2
  go_loopw [5] (fun x wr => ∃ k : Nat, x = .int .i64 k ∧ k ≤ i ∧ Hid (∀ j, j < k → (rw_ l j).fr ≠ t0) ∧ Below W0.heap.size W0 wr) (fun y _ => i - (intOf y).toNat)
  case atStart => exact ⟨0, rfl, Nat.zero_le _, fun i hi => by omega, Below.refl _ _⟩
  case round =>
    obtain ⟨k, rfl, hk, h0, hb⟩ := hrel
    have hbw := hb0.trans (hb.mono hb0.size)
    by_cases hlt : k < i
    · obtain ⟨b2, off2, tv, ee, d0w, -, -⟩ := HT.out k (by omega)
      obtain ⟨rfl, rfl⟩ : b = b2 ∧ off = off2 := by simpa using ee
      have d0 := (hb.cell (p := ⟨b, off + k * 2, none⟩) (lt_of_cell d0w)).trans d0w
      have d1' := (hb.cell (p := ⟨b, off + i * 2 + 1, none⟩) (lt_of_cell d1)).trans d1
      have c0' := (hb.cell (p := ⟨tb, toff, none⟩) (lt_of_cell c0)).trans c0
      have e0' := (hb.cell (p := ⟨w.heap.size, 0, none⟩) (lt_of_cell e0)).trans e0
      have hkl : (k : Int) < (l.length : Int) := by omega
      have HN : Hid ((rw_ l k).fr ≠ t0 → ∀ j, j < k + 1 → (rw_ l j).fr ≠ t0) := fun hn => next_no (key := fun i => (rw_ l i).fr) h0.out hn
      have HY : Hid ((rw_ l k).fr = t0 → Sought i (fun i => (rw_ l i).fr) t0 k) := fun h => sought_at hlt h
      clear d0w ee
      generalize (rw_ l k).fr = q at d0 HN HY
      by_cases hq : q = t0
      · have hy := Hid.mk' (HY.out hq)
        have hqb : (q == t0) = true := by simp [hq]
        clear hq
        go_wp2
        go_region
        go_wp2
        go_ret
        exact ⟨⟨_, rfl, hy.out⟩, hbw.drew⟩
      · have hn := Hid.mk' (HN.out hq)
        have hqb : (q == t0) = false := by simp [hq]
        clear hq
        go_wp2
        go_region
        go_wp2
        go_roundw
        case rel => exact ⟨k + 1, by go_num, by omega, hn, hb.drew⟩
        case measure => simp [intOf]; omega
    · obtain rfl : k = i := by omega
      go_wp2
      go_ret
      exact ⟨⟨_, rfl, .inr ⟨rfl, h0.out⟩⟩, hbw⟩
set_option maxHeartbeats 1000000 in
theorem refExcluded_any (vr vc ve : Value) (l : List Int) (r : Int) (w : World) (hT : Runes w ve l) (hl : l.length ≤ 2147483648) :
    Calls Tryz.prog 101 #[.agg #[vr, vc, ve], .int .i32 r] w fun e w' => e = .returned (.bool (l.any fun y => y == r)) ∧ Below w.heap.size w w' := by
  obtain ⟨W0, hW0, hsz, hb0, e0, e1, e2⟩ := norm_box w vr vc ve
  have hT' := hT.below hb0
  obtain ⟨a, cap, rfl, hTj⟩ := hT'
  have HT := Hid.mk' hTj
  have HA : Hid (∀ k, k < l.length → l.getD k 0 = r → (l.any fun y => y == r) = true) := fun k hk h => any_of hk h
  have HF : Hid ((∀ k, k < l.length → l.getD k 0 ≠ r) → (l.any fun y => y == r) = false) := fun h => any_not h
  generalize (l.any fun y => y == r) = res at *
  clear hT hTj e0 e1
  go_enter Tryz.func101, Tryz.ntmps101
  go_wp2
  go_loop [5] (fun x => ∃ k : Nat, x = .int .i64 k ∧ k ≤ l.length ∧ Hid (∀ i, i < k → l.getD i 0 ≠ r)) (fun y => l.length - (intOf y).toNat)
  case atStart => exact ⟨0, rfl, Nat.zero_le _, fun i hi => by omega⟩
  case round =>
    obtain ⟨k, rfl, hk, h0⟩ := hrel
    by_cases hlt : k < l.length
    · obtain ⟨b, off, rfl, d0⟩ := HT.out k hlt
      have HN : Hid (l.getD k 0 ≠ r → ∀ i, i < k + 1 → l.getD i 0 ≠ r) := fun hn => next_no (key := fun i => l.getD i 0) h0.out hn
      have HY : Hid (l.getD k 0 = r → res = true) := fun h => HA.out k hlt h
      generalize l.getD k 0 = q at d0 HN HY
      by_cases hq : q = r
      · have hy := Hid.mk' (HY.out hq)
        have hqb : (q == r) = true := by simp [hq]
        clear hq
        go_wp2
        go_ret
        exact ⟨ret_bool hy.out.symm, hb0⟩
      · have hn := Hid.mk' (HN.out hq)
        have hqb : (q == r) = false := by simp [hq]
        clear hq
        go_wp2
        go_round
        case rel => exact ⟨k + 1, by go_num, by omega, hn⟩
        case measure => simp [intOf]; omega
    · obtain rfl : k = l.length := by omega
      have hf := Hid.mk' (HF.out h0.out)
      go_wp2
      go_ret
      exact ⟨ret_bool hf.out.symm, hb0⟩
set_option maxHeartbeats 1000000 in
theorem refClass_any (vr vc ve : Value) (l : List Rg) (r : Int) (w : World) (hT : Tab w vc l) (hl : l.length ≤ 2147483648) :
    Calls Tryz.prog 102 #[.agg #[vr, vc, ve], .int .i32 r] w fun e w' => e = .returned (.int .i64 (classOf l r)) ∧ Below w.heap.size w w' := by
  obtain ⟨W0, hW0, hsz, hb0, e0, e1, e2⟩ := norm_box w vr vc ve
  have HF := Hid.mk' (refFind_any vc l r W0 (hT.below hb0) hl)
  unfold foundV at HF
  unfold classOf
  generalize find l r = o at *
  generalize o.getD 0 = o1 at *
  generalize o.isSome = o2 at *
  obtain ⟨a, cap, rfl, -⟩ := hT
  clear e0 e2
  go_enter Tryz.func102, Tryz.ntmps102
  go_wp2_with fail
  refine HF.out.mono ?_
  rintro e w1 ⟨rfl, rfl⟩
  go_wp2
  go_ret
  exact ⟨rfl, hb0⟩
end Go.Proofs.YtlnehhfljjeifaaGreatDoor

/-
  What is proved here: what formed, faultOf and Class answer.
-/
import Derived.Test.YtlnehhfljjeifaaGreatDoorA2
namespace Go.Proofs.YtlnehhfljjeifaaGreatDoor
open Go.RowKit

theorem formed_len {x : Rw} (h : ¬ (x.to.length = 1 ∨ x.to.length = 2)) : formedR x = false := by
  unfold formedR; rw [decide_eq_false h]; rfl
theorem formed_ge {x : Rw} (h : x.fr ≤ x.to0) : formedR x = false := by
  unfold formedR; rw [decide_eq_false (p := x.to0 < x.fr) (by omega)]; simp
theorem formed_not {x : Rw} {k : Nat} (hk : k < x.to.length) (h : mayR (x.to.getD k 0) = false) : formedR x = false := by
  unfold formedR
  rw [Bool.and_eq_false_iff]
  right
  rw [List.all_eq_false]
  refine ⟨x.to.getD k 0, ?_, by simpa using h⟩
  rw [List.getD, List.getElem?_eq_getElem hk]
  exact List.getElem_mem hk
theorem formed_yes {x : Rw} (h1 : x.to.length = 1 ∨ x.to.length = 2) (h2 : x.to0 < x.fr) (h : ∀ k, k < x.to.length → mayR (x.to.getD k 0) = true) : formedR x = true := by
  unfold formedR
  rw [decide_eq_true h1, decide_eq_true h2]
  simp only [Bool.true_and]
  rw [List.all_eq_true]
  intro r hr
  obtain ⟨k, hk, rfl⟩ := List.mem_iff_getElem.1 hr
  have := h k hk
  rwa [List.getD, List.getElem?_eq_getElem hk] at this
set_option maxRecDepth 100000 in
set_option maxHeartbeats 2000000 in
theorem formed_any (x : Rw) (tv : Value) (w : World) (p : Nat → Addr) (hg : Gl p w) (hT : Runes w tv x.to) (hl : x.to.length ≤ 2147483648) :
    Calls Tryz.prog 142 #[.agg #[.int .i32 x.fr, tv]] w fun e w' => e = .returned (.bool (formedR x)) ∧ Below w.heap.size w w' := by
  obtain ⟨a, cap, rfl, hT⟩ := hT
  have HL : Hid (¬ (x.to.length = 1 ∨ x.to.length = 2) → formedR x = false) := formed_len
  have HG : Hid (x.fr ≤ x.to0 → formedR x = false) := formed_ge
  have HN : Hid (∀ k, k < x.to.length → mayR (x.to.getD k 0) = false → formedR x = false) := fun k hk h => formed_not hk h
  have HY : Hid ((x.to.length = 1 ∨ x.to.length = 2) → x.to0 < x.fr → (∀ k, k < x.to.length → mayR (x.to.getD k 0) = true) → formedR x = true) := formed_yes
  have HT : Hid (∀ W, Below w.heap.size w W → ∀ j, j < x.to.length → ∃ b off, a = some ⟨b, off, none⟩ ∧ W.cell? ⟨b, off + j, none⟩ = some (.int .i32 (x.to.getD j 0))) := fun W hb j hj => by
    obtain ⟨b, off, rfl, hc⟩ := hT j hj
    exact ⟨b, off, rfl, (hb.cell (p := ⟨b, off + j, none⟩) (lt_of_cell hc)).trans hc⟩
  have HM : Hid (∀ W k, Below w.heap.size w W → _) := fun W k hb => mayStand_any (x.to.getD k 0) W p (hg.below hb)
  have h00 : x.to.getD 0 0 = x.to0 := rfl
  obtain ⟨fr, to⟩ := x
  simp only [] at *
  generalize formedR ⟨fr, to⟩ = res at *
  generalize Rw.to0 ⟨fr, to⟩ = t0 at *
  obtain ⟨W0, hW0⟩ : ∃ W0, w.alloc (.cells #[.int .i32 fr, .slice a to.length cap] 118) = W0 := ⟨_, rfl⟩
  have hb0 : Below w.heap.size w W0 := by rw [← hW0]; exact (Below.refl _ w).alloc (Nat.le_refl _) _
  have e0 : W0.cell? ⟨w.heap.size, 0, none⟩ = some (.int .i32 fr) := by rw [← hW0, World.cell?_alloc_new]; rfl
  have e1 : W0.cell? ⟨w.heap.size, 1, none⟩ = some (.slice a to.length cap) := by rw [← hW0, World.cell?_alloc_new]; rfl
  clear hT hg
  rcases (by omega : to.length = 0 ∨ 2 < to.length ∨ (to.length = 1 ∨ to.length = 2)) with hz | hbig | h12
  · have hf : Hid (res = false) := HL.out (by omega)
    have hlt : decide ((to.length : Int) < 1) = true := by simp; omega
    have hH := Hid.mk' hz
    clear hz HN HY HT HM
    go_enter Tryz.func142, Tryz.ntmps142
    go_wp2
    go_region
    go_wp2
    go_ret
    exact ⟨ret_bool hf.out.symm, hb0.drew⟩
  · have hf : Hid (res = false) := HL.out (by omega)
    have hlt : decide ((to.length : Int) < 1) = false := by simp; omega
    have hgt : decide ((2 : Int) < to.length) = true := by simp; omega
    clear hbig HN HY HT HM
    go_enter Tryz.func142, Tryz.ntmps142
    go_wp2
    go_region
    go_wp2
    go_ret
    exact ⟨ret_bool hf.out.symm, hb0.drew⟩
  · obtain ⟨b, off, rfl, c0⟩ := HT.out W0 hb0 0 (by omega)
    rw [h00, Nat.add_zero] at c0
    have hlt : decide ((to.length : Int) < 1) = false := by simp; omega
    have hgt : decide ((2 : Int) < to.length) = false := by simp; omega
    have hlen : (0 : Int) < (to.length : Int) := by omega
    by_cases hge : fr ≤ t0
    · have hf : Hid (res = false) := HG.out hge
      have hgd : decide (fr ≤ t0) = true := decide_eq_true hge
      have h12' := Hid.mk' h12
      clear h12 hge HN HY HT HM HL HG h00
      go_enter Tryz.func142, Tryz.ntmps142
      go_wp2
      go_region
      go_wp2
      go_ret
      exact ⟨ret_bool hf.out.symm, hb0.drew⟩
    · have hgd : decide (fr ≤ t0) = false := decide_eq_false hge
      have HY' : Hid ((∀ k, k < to.length → mayR (to.getD k 0) = true) → res = true) := HY.out h12 (by omega)
      clear h12 hge HY HL HG h00
      go_enter Tryz.func142, Tryz.ntmps142
      go_wp2
      go_region
      go_wp2
      clear c0
      go_loopw [27] (fun y wr => ∃ k : Nat, y = .int .i64 k ∧ k ≤ to.length ∧ Hid (∀ i, i < k → mayR (to.getD i 0) = true) ∧ Below w.heap.size w wr) (fun y _ => to.length - (intOf y).toNat)
      case atStart => exact ⟨0, rfl, Nat.zero_le _, fun i hi => by omega, hb0.drew⟩
      case round =>
        obtain ⟨k, rfl, hk, hm, hb⟩ := hrel
        by_cases hlk : k < to.length
        · obtain ⟨b2, off2, e2, c⟩ := HT.out wr hb k hlk
          obtain ⟨rfl, rfl⟩ : b = b2 ∧ off = off2 := by simpa using e2
          have HMk := Hid.mk' (HM.out wr k hb)
          have HNk := Hid.mk' (HN.out k hlk)
          have HS : Hid (mayR (to.getD k 0) = true → ∀ i, i < k + 1 → mayR (to.getD i 0) = true) := fun h i hi => by
            rcases Nat.lt_or_ge i k with g | g
            · exact hm.out i g
            · obtain rfl : i = k := by omega
              exact h
          clear e2
          generalize to.getD k 0 = z at *
          cases hz : mayR z
          · rw [hz] at HMk
            have hf := Hid.mk' (HNk.out hz)
            go_wp2_with fail
            refine HMk.out.mono ?_
            rintro e w1 ⟨rfl, hb1⟩
            go_wp2
            go_ret
            exact ⟨ret_bool hf.out.symm, hb.trans (hb1.mono hb.size)⟩
          · rw [hz] at HMk
            have hs := Hid.mk' (HS.out hz)
            go_wp2_with fail
            refine HMk.out.mono ?_
            rintro e w1 ⟨rfl, hb1⟩
            go_wp2
            go_roundw
            case rel => exact ⟨k + 1, by go_num, by omega, hs, hb.trans (hb1.mono hb.size)⟩
            case measure => simp [intOf]; omega
        · obtain rfl : k = to.length := by omega
          have hf : Hid (res = true) := HY'.out hm.out
          go_wp2
          go_ret
          exact ⟨ret_bool hf.out.symm, hb⟩
end Go.Proofs.YtlnehhfljjeifaaGreatDoor

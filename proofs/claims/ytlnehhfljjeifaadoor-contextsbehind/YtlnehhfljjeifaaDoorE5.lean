/-
  What is proved here: what the laws of layer 4's Great and Right answer.
-/
import Derived.Test.YtlnehhfljjeifaaDoorE0
namespace Go.Proofs.YtlnehhfljjeifaaDoor
open Go.RowKit

def greatM (t : Nm) : Bool := decide (40 < t.rows.length) || decide (40 < t.cls.length) || decide (40 < t.exc.length) || t.rows.any fun x => decide (4 < x.to.length)
theorem great_false {t : Nm} (h : greatM t = false) : t.rows.length ≤ 40 ∧ t.cls.length ≤ 40 ∧ t.exc.length ≤ 40 ∧ ∀ i, i < t.rows.length → (rw_ t.rows i).to.length ≤ 4 := by
  unfold greatM at h
  simp only [Bool.or_eq_false_iff, decide_eq_false_iff_not, List.any_eq_false] at h
  obtain ⟨⟨⟨h1, h2⟩, h3⟩, h4⟩ := h
  refine ⟨by omega, by omega, by omega, fun i hi => ?_⟩
  have := h4 (rw_ t.rows i) (by unfold rw_; rw [List.getD, List.getElem?_eq_getElem hi]; exact List.getElem_mem hi)
  simp at this
  exact this
theorem great_row {t : Nm} {i : Nat} (hi : i < t.rows.length) (h : 4 < (rw_ t.rows i).to.length) : greatM t = true := by
  unfold greatM
  rw [Bool.or_eq_true]
  right
  rw [List.any_eq_true]
  refine ⟨rw_ t.rows i, ?_, by simpa using h⟩
  unfold rw_; rw [List.getD, List.getElem?_eq_getElem hi]; exact List.getElem_mem hi
theorem great_none {t : Nm} (h1 : t.rows.length ≤ 40) (h2 : t.cls.length ≤ 40) (h3 : t.exc.length ≤ 40) (h : ∀ i, i < t.rows.length → (rw_ t.rows i).to.length ≤ 4) : greatM t = false := by
  unfold greatM
  simp only [Bool.or_eq_false_iff, decide_eq_false_iff_not, List.any_eq_false]
  refine ⟨⟨⟨by omega, by omega⟩, by omega⟩, fun x hx => ?_⟩
  obtain ⟨i, hi, rfl⟩ := List.mem_iff_getElem.1 hx
  have := h i hi
  unfold rw_ at this
  rw [List.getD, List.getElem?_eq_getElem hi] at this
  simp at this ⊢
  exact this
set_option maxHeartbeats 2000000 in
theorem great_any (vr vc ve : Value) (t : Nm) (w : World) (hR : Rows4 w vr t.rows) (hC : Tab w vc t.cls) (hE : Runes w ve t.exc) :
    Calls Tryd.prog 10 #[.agg #[vr, vc, ve]] w fun e w' => e = .returned (.bool (greatM t)) ∧ Below w.heap.size w w' := by
  obtain ⟨W0, hW0, hsz, hb0, e0, e1, e2⟩ := norm_box w vr vc ve
  have hR' := hR.below hb0
  obtain ⟨a, cap, rfl, hTj⟩ := hR'
  obtain ⟨ca, ccap, rfl, -⟩ := hC
  obtain ⟨ea, ecap, rfl, -⟩ := hE
  have HG1 : Hid (40 < t.rows.length ∨ 40 < t.cls.length ∨ 40 < t.exc.length → greatM t = true) := fun h => by
    unfold greatM
    rcases h with h | h | h
    · rw [decide_eq_true h]; simp
    · rw [decide_eq_true h]; simp
    · rw [decide_eq_true h]; simp
  have HG2 : Hid (∀ i, i < t.rows.length → 4 < (rw_ t.rows i).to.length → greatM t = true) := fun i hi h => great_row hi h
  have HG3 : Hid (t.rows.length ≤ 40 → t.cls.length ≤ 40 → t.exc.length ≤ 40 → (∀ i, i < t.rows.length → (rw_ t.rows i).to.length ≤ 4) → greatM t = false) := great_none
  have HT := Hid.mk' hTj
  generalize greatM t = res at *
  clear hR hTj
  by_cases hbig : 40 < t.rows.length ∨ 40 < t.cls.length ∨ 40 < t.exc.length
  · have hres := Hid.mk' (HG1.out hbig)
    have hx : decide ((40 : Int) < (t.rows.length : Int)) = true ∨ (decide ((40 : Int) < (t.rows.length : Int)) = false ∧ decide ((40 : Int) < (t.cls.length : Int)) = true) ∨ (decide ((40 : Int) < (t.rows.length : Int)) = false ∧ decide ((40 : Int) < (t.cls.length : Int)) = false ∧ decide ((40 : Int) < (t.exc.length : Int)) = true) := by
      by_cases h1 : 40 < t.rows.length
      · left; simp; omega
      · right
        by_cases h2 : 40 < t.cls.length
        · left; simp; omega
        · right; simp; omega
    clear hbig HG1 HG2 HG3
    rcases hx with h | ⟨h, h'⟩ | ⟨h, h', h''⟩
    all_goals
      go_enter Tryd.func10, Tryd.ntmps10
      go_wp2
      go_ret
      exact ⟨ret_bool hres.out.symm, hb0⟩
  · have b1 : decide ((40 : Int) < (t.rows.length : Int)) = false := by simp; omega
    have b2 : decide ((40 : Int) < (t.cls.length : Int)) = false := by simp; omega
    have b3 : decide ((40 : Int) < (t.exc.length : Int)) = false := by simp; omega
    have hl40 : t.rows.length ≤ 40 := by omega
    have HGN := Hid.mk' (HG3.out hl40 (by omega) (by omega))
    clear hbig HG1 HG3
    go_enter Tryd.func10, Tryd.ntmps10
    go_wp2
    go_loop [3] (fun x => ∃ k : Nat, x = .int .i64 k ∧ k ≤ t.rows.length ∧ Hid (∀ i, i < k → (rw_ t.rows i).to.length ≤ 4)) (fun y => t.rows.length - (intOf y).toNat)
    case atStart => exact ⟨0, rfl, Nat.zero_le _, fun i hi => by omega⟩
    case round =>
      obtain ⟨k, rfl, hk, h0⟩ := hrel
      by_cases hlt : k < t.rows.length
      · obtain ⟨b, off, tv, rfl, -, d1, ta, tcap, rfl, -⟩ := HT.out k hlt
        have hG := Hid.mk' (HG2.out k hlt)
        have HN : Hid ((rw_ t.rows k).to.length ≤ 4 → ∀ i, i < k + 1 → (rw_ t.rows i).to.length ≤ 4) := fun hn i hi => by
          rcases Nat.lt_or_ge i k with g | g
          · exact h0.out i g
          · obtain rfl : i = k := by omega
            exact hn
        generalize (rw_ t.rows k).to.length = tn at *
        by_cases h4 : 4 < tn
        · have hres := Hid.mk' (hG.out h4)
          have hd : decide ((4 : Int) < (tn : Int)) = true := by simp; omega
          clear h4
          go_wp2
          go_ret
          exact ⟨ret_bool hres.out.symm, hb0⟩
        · have hn := Hid.mk' (HN.out (by omega))
          have hd : decide ((4 : Int) < (tn : Int)) = false := by simp; omega
          clear h4
          go_wp2
          go_round
          case rel => exact ⟨k + 1, by go_num, by omega, hn⟩
          case measure => simp [intOf]; omega
      · obtain rfl : k = t.rows.length := by omega
        have hres := Hid.mk' (HGN.out h0.out)
        go_wp2
        go_ret
        exact ⟨ret_bool hres.out.symm, hb0⟩
end Go.Proofs.YtlnehhfljjeifaaDoor

/-
  What is proved here: what faultOf, Class and syllable answer.
-/
import Derived.Test.YtlnehhfljjeifaaGreatDoorA3
import Derived.Maps.AppendAt
namespace Go.Proofs.YtlnehhfljjeifaaGreatDoor
open Go.RowKit

/-- the fault of the row number i by itself, and by the one ahead -/
def faultCode (l : List Rw) (i : Nat) : Nat :=
  if mayR (rw_ l i).fr = false then 4 else if 0 < i ∧ (rw_ l i).fr ≤ (rw_ l (i - 1)).fr then 6 else if formedR (rw_ l i) = false then 5 else 0
/-- is a row's second rune a row's From, or its chain too long? -/
def deepR (l : List Rw) (i : Nat) : Prop := ((rw_ l i).to.length = 2 ∧ (l.any fun x => x.fr == (rw_ l i).to1) = true) ∨ 8 < 1 + chainIn l i (rw_ l i).to0
theorem rowCode_fault {l : List Rw} {i : Nat} (h : faultCode l i ≠ 0) : rowCode l i = faultCode l i := by
  unfold faultCode rowCode at *
  (repeat' split at h) <;> simp_all
theorem rowCode_deep {l : List Rw} {i : Nat} (h : faultCode l i = 0) (hd : deepR l i) : rowCode l i = 9 := by
  unfold faultCode at h
  unfold rowCode
  by_cases h1 : mayR (rw_ l i).fr = false
  · rw [if_pos h1] at h; omega
  · rw [if_neg h1] at h ⊢
    by_cases h2 : 0 < i ∧ (rw_ l i).fr ≤ (rw_ l (i - 1)).fr
    · rw [if_pos h2] at h; omega
    · rw [if_neg h2] at h ⊢
      by_cases h3 : formedR (rw_ l i) = false
      · rw [if_pos h3] at h; omega
      · rw [if_neg h3]
        exact if_pos hd
theorem rowCode_none {l : List Rw} {i : Nat} (h : faultCode l i = 0) (hd : ¬ deepR l i) : rowCode l i = 0 := by
  unfold faultCode at h
  unfold rowCode
  by_cases h1 : mayR (rw_ l i).fr = false
  · rw [if_pos h1] at h; omega
  · rw [if_neg h1] at h ⊢
    by_cases h2 : 0 < i ∧ (rw_ l i).fr ≤ (rw_ l (i - 1)).fr
    · rw [if_pos h2] at h; omega
    · rw [if_neg h2] at h ⊢
      by_cases h3 : formedR (rw_ l i) = false
      · rw [if_pos h3] at h; omega
      · rw [if_neg h3]
        exact if_neg hd
theorem faultCode_zero {l : List Rw} {i : Nat} (h : faultCode l i = 0) : mayR (rw_ l i).fr = true ∧ (0 < i → (rw_ l (i - 1)).fr < (rw_ l i).fr) ∧ formedR (rw_ l i) = true := by
  unfold faultCode at h
  split at h
  · omega
  · rename_i h1
    split at h
    · omega
    · rename_i h2
      split at h
      · omega
      · rename_i h3
        exact ⟨by simpa using h1, fun h0 => by omega, by simpa using h3⟩
set_option maxHeartbeats 2000000 in
theorem faultOf4_any (v : Value) (l : List Rw) (i : Nat) (w : World) (p : Nat → Addr) (hg : Gl p w) (hT : Rows4 w v l) (hi : i < l.length) (hl : l.length ≤ 2147483648) (hlt : (rw_ l i).to.length ≤ 2147483648) :
    Calls Tryz.prog 104 #[v, .int .i64 i] w fun e w' => e = .returned (nam p (faultCode l i)) ∧ Below w.heap.size w w' := by
  obtain ⟨a, cap, rfl, hT⟩ := hT
  obtain ⟨b, off, tv, rfl, d0, d1, hR⟩ := hT i hi
  have HD : Hid (∀ W, Below w.heap.size w W → W.cell? ⟨b, off + i * 2, none⟩ = some (.int .i32 (rw_ l i).fr) ∧ W.cell? ⟨b, off + i * 2 + 1, none⟩ = some tv) := fun W hb => ⟨(hb.cell (p := ⟨b, off + i * 2, none⟩) (lt_of_cell d0)).trans d0, (hb.cell (p := ⟨b, off + i * 2 + 1, none⟩) (lt_of_cell d1)).trans d1⟩
  have HM := Hid.mk' (mayStand_any (rw_ l i).fr w p hg)
  have HFm : Hid (∀ W, Below w.heap.size w W → _) := fun W hb => formed_any (rw_ l i) tv W p (hg.below hb) (hR.below hb) hlt
  have HG : Hid (∀ W, Below w.heap.size w W → _) := fun W hb => hg.below hb
  have hcode : faultCode l i = if mayR (rw_ l i).fr = false then 4 else if 0 < i ∧ (rw_ l i).fr ≤ (rw_ l (i - 1)).fr then 6 else if formedR (rw_ l i) = false then 5 else 0 := rfl
  have HP : Hid (∀ W, Below w.heap.size w W → 0 < i → W.cell? ⟨b, off + (i - 1) * 2, none⟩ = some (.int .i32 (rw_ l (i - 1)).fr)) := fun W hb h0 => by
    obtain ⟨b2, off2, tv2, e2, d2, -, -⟩ := hT (i - 1) (by omega)
    obtain ⟨rfl, rfl⟩ : b = b2 ∧ off = off2 := by simpa using e2
    exact (hb.cell (p := ⟨b, off + (i - 1) * 2, none⟩) (lt_of_cell d2)).trans d2
  obtain ⟨ta, tcap, rfl, -⟩ := hR
  clear hT hg hlt
  generalize faultCode l i = c at *
  generalize rw_ l i = q at *
  obtain ⟨qf, qt⟩ := q
  simp only [] at *
  generalize formedR ⟨qf, qt⟩ = fm at *
  generalize (rw_ l (i - 1)).fr = pf at *
  cases hm : mayR qf
  · rw [hm] at hcode HM
    rw [if_pos rfl] at hcode
    subst hcode
    clear HP HFm HD
    go_enter Tryz.func104, Tryz.ntmps104
    go_wp2_with fail
    refine HM.out.mono ?_
    rintro e w1 ⟨rfl, hb⟩
    have g4 := (HG.out w1 hb).g4
    clear HG
    go_wp2
    go_ret
    exact ⟨rfl, hb⟩
  · rw [hm] at hcode HM
    rw [if_neg (by decide)] at hcode
    by_cases hi0 : i = 0
    · subst hi0
      rw [if_neg (by omega)] at hcode
      simp only [Nat.zero_mul, Nat.add_zero] at *
      go_enter Tryz.func104, Tryz.ntmps104
      go_wp2_with fail
      refine HM.out.mono ?_
      rintro e w1 ⟨rfl, hb⟩
      clear d0 d1 HP
      obtain ⟨d0, d1⟩ := HD.out w1 hb
      have HF1 := Hid.mk' (HFm.out w1.drew hb.drew)
      have g5 := (HG.out w1 hb).g5
      go_wp2
      go_region
      cases hf : fm
      · rw [hf] at hcode HF1
        rw [if_pos rfl] at hcode
        subst hcode
        go_wp2_with fail
        refine HF1.out.mono ?_
        rintro e w2 ⟨rfl, hb2⟩
        have g5' := (HG.out w2 (hb.drew.trans (hb2.mono hb.size))).g5
        clear HG HD HFm g5
        go_wp2
        go_ret
        exact ⟨rfl, hb.drew.trans (hb2.mono hb.size)⟩
      · rw [hf] at hcode HF1
        rw [if_neg (by decide)] at hcode
        subst hcode
        go_wp2_with fail
        refine HF1.out.mono ?_
        rintro e w2 ⟨rfl, hb2⟩
        clear HG HD HFm g5
        go_wp2
        go_ret
        exact ⟨rfl, hb.drew.trans (hb2.mono hb.size)⟩
    · obtain ⟨k, rfl⟩ : ∃ k, i = k + 1 := ⟨i - 1, by omega⟩
      simp only [Nat.add_sub_cancel] at HP hcode
      have HM' := HM
      go_enter Tryz.func104, Tryz.ntmps104
      go_wp2_with fail
      refine HM.out.mono ?_
      rintro e w1 ⟨rfl, hb⟩
      clear d0 d1
      obtain ⟨d0, d1⟩ := HD.out w1 hb
      have dp := HP.out w1 hb (by omega)
      have HF1 := Hid.mk' (HFm.out w1.drew hb.drew)
      have g5 := (HG.out w1 hb).g5
      have g6 := (HG.out w1 hb).g6
      have hkl : (k : Int) < (l.length : Int) := by omega
      by_cases hle : qf ≤ pf
      · rw [if_pos ⟨by omega, hle⟩] at hcode
        subst hcode
        have hled : decide (qf ≤ pf) = true := decide_eq_true hle
        clear HG HD HFm HF1 HP g5 hle
        go_wp2
        go_region
        go_wp2
        go_ret
        exact ⟨rfl, hb.drew⟩
      · rw [if_neg (by omega)] at hcode
        have hled : decide (qf ≤ pf) = false := decide_eq_false hle
        clear g6 HP hle
        go_wp2
        go_region
        cases hf : fm
        · rw [hf] at hcode HF1
          rw [if_pos rfl] at hcode
          subst hcode
          go_wp2_with fail
          refine HF1.out.mono ?_
          rintro e w2 ⟨rfl, hb2⟩
          have g5' := (HG.out w2 (hb.drew.trans (hb2.mono hb.size))).g5
          clear HG HD HFm g5
          go_wp2
          go_ret
          exact ⟨rfl, hb.drew.trans (hb2.mono hb.size)⟩
        · rw [hf] at hcode HF1
          rw [if_neg (by decide)] at hcode
          subst hcode
          go_wp2_with fail
          refine HF1.out.mono ?_
          rintro e w2 ⟨rfl, hb2⟩
          clear HG HD HFm g5
          go_wp2
          go_ret
          exact ⟨rfl, hb.drew.trans (hb2.mono hb.size)⟩
set_option maxHeartbeats 1000000 in
theorem class_any (vr vc ve : Value) (l : List Rg) (r : Int) (w : World) (hT : Tab w vc l) (hl : l.length ≤ 2147483648) (hm : Rises l) (ha : Apart l) :
    Calls Tryz.prog 61 #[.agg #[vr, vc, ve], .int .i32 r] w fun e w' => e = .returned (.int .i64 (classOf l r)) ∧ Below w.heap.size w w' := by
  have hb0 : Below w.heap.size w (w.alloc (.cells #[vr, vc, ve] 39)) := (Below.refl _ w).alloc (Nat.le_refl _) _
  have HF := Hid.mk' (find_any vc l r (w.alloc (.cells #[vr, vc, ve] 39)) (hT.below hb0) hl hm ha)
  have HB := Hid.mk' hb0
  unfold foundV at HF
  unfold classOf
  generalize find l r = o at *
  generalize o.getD 0 = o1 at *
  generalize o.isSome = o2 at *
  obtain ⟨a, cap, rfl, -⟩ := hT
  clear hb0 hm ha
  go_enter Tryz.func61, Tryz.ntmps61
  go_wp2_with fail
  refine HF.out.mono ?_
  rintro e w1 ⟨rfl, hb⟩
  go_wp2
  go_ret
  exact ⟨rfl, HB.out.trans (hb.mono HB.out.size)⟩
end Go.Proofs.YtlnehhfljjeifaaGreatDoor

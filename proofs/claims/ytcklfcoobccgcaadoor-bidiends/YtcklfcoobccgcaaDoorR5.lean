/-
  What is proved here: what the reference's Check answers, and the laws' Right.
-/
import Derived.Test.YtcklfcoobccgcaaDoorR4
namespace Go.Proofs.YtcklfcoobccgcaaDoor
open Go.RowKit

/-- a list whose ranges may be -/
def Mays (l : List Rg) : Prop := ∀ i, i < l.length → (l.getD i default).may = true
set_option maxHeartbeats 1000000 in
theorem refCheck_any (v : Value) (l : List Rg) (w : World) (hT : Tab w v l) (hl : l.length ≤ 2147483648) :
    Calls Tryd.prog 41 #[v] w fun e w' => e = .returned (.tuple #[.int .i64 (chk l).1, .int .i64 (chk l).2]) ∧ Below w.heap.size w w' := by
  by_cases hbig : 2000 < l.length
  · have hc : chk l = (0, 18) := by unfold chk faultsM; rw [if_pos hbig]; rfl
    rw [hc]
    obtain ⟨a, cap, rfl, -⟩ := hT
    go_enter Tryd.func41, Tryd.ntmps41
    go_wp2
    go_ret2
    exact ⟨rfl, Below.refl _ _⟩
  · have HC : Hid (∀ k, k < l.length → (∀ i, i < k → codeAt l i = 0) → codeAt l k ≠ 0 → chk l = (k, codeAt l k)) := fun k hk h0 hc => chk_at l k (by omega) hk h0 hc
    have HN : Hid ((∀ i, i < l.length → codeAt l i = 0) → chk l = (0, 0)) := chk_none l (by omega)
    have HM : Hid (∀ r w', _) := fun r w' => refMay_any r w'
    obtain ⟨a, cap, rfl, hT⟩ := hT
    have HT := Hid.mk' hT
    clear hT
    go_enter Tryd.func41, Tryd.ntmps41
    go_wp2
    go_loopw [4] (fun x wr => ∃ k : Nat, x = .int .i64 k ∧ k ≤ l.length ∧ Hid (∀ i, i < k → codeAt l i = 0) ∧ Below w.heap.size w wr) (fun y _ => l.length - (intOf y).toNat)
    case atStart => exact ⟨0, rfl, Nat.zero_le _, fun i hi => by omega, Below.refl _ _⟩
    case round =>
      obtain ⟨k, rfl, hk, h0, hb⟩ := hrel
      by_cases hlt : k < l.length
      · obtain ⟨b, off, rfl, hc⟩ := HT.out k hlt
        have HD : Hid (∀ w', Below w.heap.size w w' → _) := fun w' hb => three_of (w := w') (b := b) (o := off + k * 3) (r := l.getD k default) (fun j hj => by rw [← hc j hj]; exact hb.cell (p := ⟨b, off + k * 3 + j, none⟩) (lt_of_cell (hc 0 (by omega))))
        obtain ⟨d0, d1, d2⟩ := HD.out wr hb
        have HMk := Hid.mk' (HM.out (l.getD k default) wr)
        have hcode : codeAt l k = if (l.getD k default).may = false then 4 else if 0 < k ∧ (l.getD k default).lo ≤ (l.getD (k - 1) default).hi then 6 else 0 := rfl
        have HS : Hid (codeAt l k = 0 → ∀ i, i < k + 1 → codeAt l i = 0) := fun e i hi => by
          rcases Nat.lt_or_ge i k with g | g
          · exact h0.out i g
          · obtain rfl : i = k := by omega
            exact e
        have HX : Hid (codeAt l k ≠ 0 → chk l = (k, codeAt l k)) := fun e => HC.out k hlt h0.out e
        clear hc
        generalize l.getD k default = q at d0 d1 d2 HD HMk hcode
        generalize codeAt l k = c at hcode HS HX
        unfold Rg.v at HMk
        cases hm : q.may
        · rw [hm] at hcode HMk
          simp only [if_true] at hcode
          subst hcode
          go_wp2_with fail
          refine HMk.out.mono ?_
          rintro e w1 ⟨rfl, hb1⟩
          go_wp2
          go_ret2
          exact ⟨by rw [HX.out (by decide)]; rfl, hb.trans (hb1.mono hb.size)⟩
        · rw [hm] at hcode HMk
          rw [if_neg (by decide)] at hcode
          by_cases hk0 : k = 0
          · subst hk0
            rw [if_neg (by omega)] at hcode
            subst hcode
            have hs : Hid _ := HS.out rfl
            simp only [Nat.zero_mul, Nat.add_zero] at d0 d1 d2
            go_wp2_with fail
            refine HMk.out.mono ?_
            rintro e w1 ⟨rfl, hb1⟩
            go_wp2
            go_region
            go_wp2
            go_roundw
            case rel => exact ⟨1, rfl, by omega, hs, (hb.trans (hb1.mono hb.size)).drew⟩
            case measure => simp [intOf]; omega
          · obtain ⟨b2, off2, e2, hc2⟩ := HT.out (k - 1) (by omega)
            obtain ⟨rfl, rfl⟩ : b = b2 ∧ off = off2 := by simpa using e2
            have HC2 := Hid.mk' (fun w' (hb : Below w.heap.size w w') => three_of (w := w') (b := b) (o := off + (k - 1) * 3) (r := l.getD (k - 1) default) (fun j hj => by rw [← hc2 j hj]; exact hb.cell (p := ⟨b, off + (k - 1) * 3 + j, none⟩) (lt_of_cell (hc2 0 (by omega)))))
            clear hc2 e2
            generalize l.getD (k - 1) default = z at hcode HC2
            obtain ⟨m, rfl⟩ : ∃ m, k = m + 1 := ⟨k - 1, by omega⟩
            simp only [Nat.add_sub_cancel] at HC2
            by_cases hle : q.lo ≤ z.hi
            · rw [if_pos ⟨by omega, hle⟩] at hcode
              subst hcode
              go_wp2_with fail
              refine HMk.out.mono ?_
              rintro e w1 ⟨rfl, hb1⟩
              have hb2 := hb.trans (hb1.mono hb.size)
              obtain ⟨f0, f1, f2⟩ := HD.out w1 hb2
              obtain ⟨q0, q1, q2⟩ := HC2.out w1 hb2
              clear d0 d1 d2
              go_wp2
              go_region
              go_wp2
              go_ret2
              exact ⟨by rw [HX.out (by decide)]; rfl, hb2.drew⟩
            · rw [if_neg (by omega)] at hcode
              subst hcode
              have hs : Hid _ := HS.out rfl
              go_wp2_with fail
              refine HMk.out.mono ?_
              rintro e w1 ⟨rfl, hb1⟩
              have hb2 := hb.trans (hb1.mono hb.size)
              obtain ⟨f0, f1, f2⟩ := HD.out w1 hb2
              obtain ⟨q0, q1, q2⟩ := HC2.out w1 hb2
              clear d0 d1 d2
              go_wp2
              go_region
              go_wp2
              go_roundw
              case rel => exact ⟨m + 1 + 1, by go_num, by omega, hs, hb2.drew⟩
              case measure => simp [intOf]; omega
      · obtain rfl : k = l.length := by omega
        go_wp2
        go_ret2
        exact ⟨by rw [HN.out h0.out]; rfl, hb⟩
set_option maxHeartbeats 1000000 in
theorem refFind_any (v : Value) (l : List Rg) (r : Int) (w : World) (hT : Tab w v l) (hl : l.length ≤ 2147483648) :
    Calls Tryd.prog 58 #[v, .int .i32 r] w fun e w' => e = .returned (foundV (find l r)) ∧ w = w' := by
  obtain ⟨a, cap, rfl, hT⟩ := hT
  have HT := Hid.mk' hT
  clear hT
  go_enter Tryd.func58, Tryd.ntmps58
  go_wp2
  go_loop [6] (fun x => ∃ k : Nat, x = .int .i64 k ∧ k ≤ l.length ∧ Hid (∀ i, i < k → ¬ ((l.getD i default).lo ≤ r ∧ r ≤ (l.getD i default).hi))) (fun y => l.length - (intOf y).toNat)
  case atStart => exact ⟨0, rfl, Nat.zero_le _, fun i hi => by omega⟩
  case round =>
    obtain ⟨k, rfl, hk, h0⟩ := hrel
    by_cases hlt : k < l.length
    · obtain ⟨b, off, rfl, hc⟩ := HT.out k hlt
      obtain ⟨d0, d1, d2⟩ := three_of (w := w) (b := b) (o := off + k * 3) (r := l.getD k default) hc
      clear hc
      have HN : Hid (¬ ((l.getD k default).lo ≤ r ∧ r ≤ (l.getD k default).hi) → ∀ i, i < k + 1 → ¬ ((l.getD i default).lo ≤ r ∧ r ≤ (l.getD i default).hi)) := fun hn i hi => by
        rcases Nat.lt_or_ge i k with g | g
        · exact h0.out i g
        · obtain rfl : i = k := by omega
          exact hn
      have HF : Hid ((l.getD k default).lo ≤ r ∧ r ≤ (l.getD k default).hi → find l r = some (l.getD k default).val) := fun h => find_some l r k hlt h.1 h.2 h0.out
      generalize l.getD k default = q at d0 d1 d2 HN HF
      by_cases h1 : q.lo ≤ r
      · by_cases h2 : r ≤ q.hi
        · go_wp2
          go_ret2
          exact ⟨by rw [HF.out ⟨h1, h2⟩]; rfl, rfl⟩
        · have hn : Hid _ := HN.out (fun h => h2 h.2)
          go_wp2
          go_round
          case rel => exact ⟨k + 1, by go_num, by omega, hn⟩
          case measure => simp [intOf]; omega
      · have hn : Hid _ := HN.out (fun h => h1 h.1)
        go_wp2
        go_round
        case rel => exact ⟨k + 1, by go_num, by omega, hn⟩
        case measure => simp [intOf]; omega
    · obtain rfl : k = l.length := by omega
      go_wp2
      go_ret2
      exact ⟨by rw [(find_none l r).2 h0.out]; rfl, rfl⟩
end Go.Proofs.YtcklfcoobccgcaaDoor

/-
  What is proved here: that RangesFinds answers true at all ranges and every rune.
-/
import Derived.Test.YthheplgpjhhbmaaDoorR6
namespace Go.Proofs.YthheplgpjhhbmaaDoor
open Go.RowKit

theorem right_parts {l : List Rg} (h : (chk l).2 = 0) : l.length ≤ 2000 ∧ Mays l ∧ Apart l ∧ Rises l := by
  have hR : Right l := by
    unfold Right chk at *
    cases hf : faultsM l with
    | nil => rfl
    | cons x t => rw [hf] at h; exact absurd h (faultsM_ne l x (by rw [hf]; simp))
  obtain ⟨hl, hc⟩ := (right_iff l).1 hR
  have hm : Mays l := fun i hi => by
    have := hc i hi
    unfold codeAt at this
    split at this
    · omega
    · rename_i h1; simpa using h1
  have hs : ∀ i, 0 < i → i < l.length → (l.getD (i - 1) default).hi < (l.getD i default).lo := fun i h0 hi => by
    have := hc i hi
    unfold codeAt at this
    split at this
    · omega
    · split at this
      · omega
      · rename_i h1; omega
  have hap : ∀ d i, i + d + 1 < l.length → (l.getD i default).hi < (l.getD (i + d + 1) default).lo := by
    intro d
    induction d with
    | zero => intro i hi; have := hs (i + 1) (by omega) hi; simpa using this
    | succ d ih =>
      intro i hi
      have h1 := ih i (by omega)
      have h2 := ((l.getD (i + d + 1) default).may_iff).1 (hm _ (by omega))
      have h3 := hs (i + d + 1 + 1) (by omega) (by omega)
      simp only [Nat.add_sub_cancel] at h3
      have e : i + (d + 1) + 1 = i + d + 1 + 1 := by omega
      rw [e]; omega
  have ha : Apart l := fun i j hij hj => by
    have := hap (j - i - 1) i (by omega)
    rw [show i + (j - i - 1) + 1 = j by omega] at this
    exact this
  refine ⟨hl, hm, ha, fun i j hij hj => ?_⟩
  rcases Nat.eq_or_lt_of_le hij with rfl | g
  · exact Int.le_refl _
  · have h1 := ha i j g hj
    have h2 := ((l.getD j default).may_iff).1 (hm j hj)
    omega
set_option maxRecDepth 20000 in
set_option maxHeartbeats 2000000 in
theorem finds_any (w : World) (p : Nat → Addr) (hg : Gl p w) (hm : Ml w) (v : Value) (l : List Rg) (hT : Tab w v l) (hl : l.length ≤ maxLen) (r : Int) (_hr : (Lit.int .i32 r).wf = true) :
    Calls Tryd.prog 5 #[v, .int .i32 r] w fun e w' => e = .returned (.bool true) ∧ Below w.heap.size w w' := by
  have HA := Hid.mk' (awake3_any w p hg hm)
  unfold maxLen at hl
  by_cases hbig : 60 < l.length
  · obtain ⟨a, cap, rfl, -⟩ := hT
    clear hg hm
    go_enter Tryd.func5, Tryd.ntmps5
    go_wp2_with fail
    refine HA.out.mono ?_
    rintro e w1 ⟨rfl, hb1⟩
    go_wp2
    go_ret
    exact ⟨rfl, hb1⟩
  have hl2 : l.length ≤ 2147483648 := by omega
  have HR : Hid (∀ w', Below w.heap.size w w' → _) := fun w' hb => right_any v l w' (hT.below hb) hl2
  by_cases hx : (chk l).2 = 0
  · obtain ⟨-, hmy, hap, hri⟩ := right_parts hx
    rw [decide_eq_true hx] at HR
    have HF : Hid (∀ w', Below w.heap.size w w' → _) := fun w' hb => find_any v l r w' (hT.below hb) hl2 hri hap
    have HF2 : Hid (∀ w', Below w.heap.size w w' → _) := fun w' hb => refFind_any v l r w' (hT.below hb) hl2
    have HN : Hid (∀ w', Below w.heap.size w w' → _) := fun w' hb => count_any v l w' (hT.below hb) hl2 hmy
    have HS : Hid (∀ k, k < l.length → sumTo l (k + 1) = sumTo l k + ((l.getD k default).hi - (l.getD k default).lo + 1) ∧ 0 ≤ sumTo l k ∧ sumTo l k ≤ k * 1114112) := fun k hk => ⟨rfl, sumTo_bound l hmy k (by omega)⟩
    have HM := Hid.mk' hmy
    obtain ⟨a, cap, rfl, hT⟩ := hT
    have HT := Hid.mk' hT
    unfold foundV at HF HF2
    generalize find l r = o at HF HF2
    generalize o.getD 0 = o1 at HF HF2
    generalize o.isSome = o2 at HF HF2
    clear hg hm hT hmy hap hri hx
    go_enter Tryd.func5, Tryd.ntmps5
    go_wp2_with fail
    refine HA.out.mono ?_
    rintro e w1 ⟨rfl, hb1⟩
    go_wp2_with fail
    refine (HR.out w1 hb1).mono ?_
    rintro e w2 ⟨rfl, hb2⟩
    have hbw2 := hb1.trans (hb2.mono hb1.size)
    go_wp2_with fail
    refine (HF.out w2 hbw2).mono ?_
    rintro e w3 ⟨rfl, hb3⟩
    have hbw3 := hbw2.trans (hb3.mono hbw2.size)
    go_wp2_with fail
    refine (HF2.out w3 hbw3).mono ?_
    rintro e w4 ⟨rfl, rfl⟩
    clear hb1 hb2 hb3 hbw2 HA HR HF HF2
    go_wp2
    go_loopw [9, 10] (fun x y wr => ∃ k : Nat, x = .int .i64 (sumTo l k) ∧ y = .int .i64 k ∧ k ≤ l.length ∧ Below w.heap.size w wr) (fun _ y _ => l.length - (intOf y).toNat)
    case atStart => exact ⟨0, rfl, rfl, Nat.zero_le _, hbw3⟩
    case round =>
      obtain ⟨k, rfl, rfl, hk, hb⟩ := hrel
      by_cases hlt : k < l.length
      · obtain ⟨b, off, rfl, hc⟩ := HT.out k hlt
        obtain ⟨d0, d1, d2⟩ := three_of (w := wr) (b := b) (o := off + k * 3) (r := l.getD k default) (fun j hj => by rw [← hc j hj]; exact hb.cell (p := ⟨b, off + k * 3 + j, none⟩) (lt_of_cell (hc 0 (by omega))))
        clear hc
        obtain ⟨hs, hs1, hs2⟩ := HS.out k hlt
        obtain ⟨m1, m2, m3, m4, m5⟩ := ((l.getD k default).may_iff).1 (HM.out k hlt)
        generalize l.getD k default = q at *
        generalize hsk : sumTo l k = s at *
        have hs3 : s ≤ 60 * 1114112 := by omega
        go_wp2
        go_region
        go_wp2
        go_roundw
        case rel => exact ⟨k + 1, by rw [hs], by go_num, by omega, hb.drew⟩
        case measure => simp [intOf]; omega
      · obtain rfl : k = l.length := by omega
        have HN1 := Hid.mk' (HN.out wr hb)
        generalize sumTo l l.length = sm at *
        go_wp2_with fail
        refine HN1.out.mono ?_
        rintro e w5 ⟨rfl, hb5⟩
        go_wp2
        go_ret
        exact ⟨ret_bool (by simp), hb.trans (hb5.mono hb.size)⟩
  · rw [decide_eq_false hx] at HR
    obtain ⟨a, cap, rfl, -⟩ := hT
    clear hg hm hx
    go_enter Tryd.func5, Tryd.ntmps5
    go_wp2_with fail
    refine HA.out.mono ?_
    rintro e w1 ⟨rfl, hb1⟩
    go_wp2_with fail
    refine (HR.out w1 hb1).mono ?_
    rintro e w2 ⟨rfl, hb2⟩
    go_wp2
    go_ret
    exact ⟨rfl, hb1.trans (hb2.mono hb1.size)⟩
end Go.Proofs.YthheplgpjhhbmaaDoor

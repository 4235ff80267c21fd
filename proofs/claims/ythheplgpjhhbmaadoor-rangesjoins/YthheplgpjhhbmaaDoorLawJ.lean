/-
  What is proved here: that RangesJoins answers true at all ranges, every rune and every value.
-/
import Derived.Test.YthheplgpjhhbmaaDoorJ2
namespace Go.Proofs.YthheplgpjhhbmaaDoor
open Go.RowKit

theorem joined_right {m l : List Rg} (h : Joined m l) (hl : l.length ≤ 60) : m.length ≤ 60 ∧ (chk m).2 = 0 ∧ Mays m ∧ Apart m ∧ Rises m := by
  have h1 := h.len
  have h2 := tbl_right h.tbl (by omega)
  obtain ⟨-, h3, h4, h5⟩ := right_parts h2
  exact ⟨by omega, h2, h3, h4, h5⟩
theorem only_right {l : List Rg} (v : Int) (h : Tbl l) (hl : l.length ≤ 60) : (onlyL l v).length ≤ 60 ∧ (chk (onlyL l v)).2 = 0 ∧ Mays (onlyL l v) ∧ Apart (onlyL l v) ∧ Rises (onlyL l v) := by
  have h1 : (onlyL l v).length ≤ l.length := List.length_filter_le _ _
  have h2 := tbl_right (only_tbl v h) (by omega)
  obtain ⟨-, h3, h4, h5⟩ := right_parts h2
  exact ⟨by omega, h2, h3, h4, h5⟩
set_option maxRecDepth 20000 in
set_option maxHeartbeats 4000000 in
theorem joins_any (w : World) (p : Nat → Addr) (hg : Gl p w) (hm : Ml w) (v : Value) (l : List Rg) (hT : Tab w v l) (hl : l.length ≤ maxLen) (r : Int) (_hr : (Lit.int .i32 r).wf = true) (val : Int) (_hv : (Lit.int .i64 val).wf = true) :
    Calls Tryd.prog 6 #[v, .int .i32 r, .int .i64 val] w fun e w' => e = .returned (.bool true) ∧ Below w.heap.size w w' := by
  have HA := Hid.mk' (awake3_any w p hg hm)
  unfold maxLen at hl
  by_cases hbig : 60 < l.length
  · obtain ⟨a, cap, rfl, -⟩ := hT
    clear hg hm
    go_enter Tryd.func6, Tryd.ntmps6
    go_wp2_with fail
    refine HA.out.mono ?_
    rintro e w1 ⟨rfl, hb1⟩
    go_wp2
    go_ret
    exact ⟨rfl, hb1⟩
  have hl2 : l.length ≤ 2147483648 := by omega
  have HR : Hid (∀ w', Below w.heap.size w w' → _) := fun w' hb => right_any v l w' (hT.below hb) hl2
  by_cases hx : (chk l).2 = 0
  · obtain ⟨-, hmy, hap, hri⟩ := right_parts hx
    have htb := right_tbl hx
    rw [decide_eq_true hx] at HR
    have HJ : Hid (∀ w', Below w.heap.size w w' → _) := fun w' hb => join_any v l w' (hT.below hb) hl2 htb
    have HF2 : Hid (∀ w', Below w.heap.size w w' → _) := fun w' hb => refFind_any v l r w' (hT.below hb) hl2
    have HN : Hid (∀ w', Below w.heap.size w w' → _) := fun w' hb => count_any v l w' (hT.below hb) hl2 hmy
    have HO : Hid (∀ w', Below w.heap.size w w' → _) := fun w' hb => only_any v l val w' (hT.below hb) hl2
    have HOF : Hid (∀ w' v', Tab w' v' (onlyL l val) → Calls Tryd.prog 17 #[v', .int .i32 r] w' fun e w'' => e = .returned (foundV (if find l r = some val then some val else none)) ∧ Below w'.heap.size w' w'') := fun w' v' ht => by
      obtain ⟨o1, o2, o3, o4, o5⟩ := only_right val htb (by omega)
      rw [← only_find val htb r]
      exact find_any v' _ r w' ht (by omega) o5 o4
    have HOR : Hid (∀ w' v', Tab w' v' (onlyL l val) → Calls Tryd.prog 16 #[v'] w' fun e w'' => e = .returned (.bool true) ∧ Below w'.heap.size w' w'') := fun w' v' ht => by
      obtain ⟨o1, o2, o3, o4, o5⟩ := only_right val htb (by omega)
      have := right_any v' _ w' ht (by omega)
      rw [decide_eq_true o2] at this
      exact this
    have HJF : Hid (∀ m w' v', Joined m l → Tab w' v' m → Calls Tryd.prog 17 #[v', .int .i32 r] w' fun e w'' => e = .returned (foundV (find l r)) ∧ Below w'.heap.size w' w'') := fun m w' v' hj ht => by
      obtain ⟨o1, o2, o3, o4, o5⟩ := joined_right hj (by omega)
      rw [← hj.find r]
      exact find_any v' _ r w' ht (by omega) o5 o4
    have HJR : Hid (∀ m w' v', Joined m l → Tab w' v' m → Calls Tryd.prog 16 #[v'] w' fun e w'' => e = .returned (.bool true) ∧ Below w'.heap.size w' w'') := fun m w' v' hj ht => by
      obtain ⟨o1, o2, o3, o4, o5⟩ := joined_right hj (by omega)
      have := right_any v' _ w' ht (by omega)
      rw [decide_eq_true o2] at this
      exact this
    have HJN : Hid (∀ m w' v', Joined m l → Tab w' v' m → Calls Tryd.prog 15 #[v'] w' fun e w'' => e = .returned (.int .i64 (sumTo l l.length)) ∧ Below w'.heap.size w' w'') := fun m w' v' hj ht => by
      obtain ⟨o1, o2, o3, o4, o5⟩ := joined_right hj (by omega)
      rw [sumTo_all, ← hj.sum, ← sumTo_all]
      exact count_any v' _ w' ht (by omega) o3
    have HLen : Hid (∀ m, Joined m l → m.length ≤ 60) := fun m hj => (joined_right hj (by omega)).1
    obtain ⟨a, cap, rfl, -⟩ := hT
    generalize sumTo l l.length = sm at HN HJN
    unfold foundV at HF2 HOF HJF
    have hcase : (∃ o1 o2 : Int, ∃ b1 b2 : Bool, (find l r).getD 0 = o1 ∧ (find l r).isSome = b1 ∧ (if find l r = some val then some val else none : Option Int).getD 0 = o2 ∧ (if find l r = some val then some val else none : Option Int).isSome = b2 ∧ (b2 == (b1 && (o1 == val))) = true ∧ (!b2 || (o2 == val)) = true) := by
      refine ⟨_, _, _, _, rfl, rfl, rfl, rfl, ?_, ?_⟩
      · cases find l r with
        | none => simp
        | some x =>
          by_cases hxv : x = val <;> simp [hxv]
      · cases find l r with
        | none => simp
        | some x => by_cases hxv : x = val <;> simp [hxv]
    obtain ⟨o1, o2, b1, b2, e1, e2, e3, e4, hq1, hq2⟩ := hcase
    rw [e1, e2] at HF2 HJF
    rw [e3, e4] at HOF
    clear e1 e2 e3 e4 hg hm hmy hap hri hx htb
    go_enter Tryd.func6, Tryd.ntmps6
    go_wp2_with fail
    refine HA.out.mono ?_
    rintro e w1 ⟨rfl, hb1⟩
    go_wp2_with fail
    refine (HR.out w1 hb1).mono ?_
    rintro e w2 ⟨rfl, hb2⟩
    have hbw2 := hb1.trans (hb2.mono hb1.size)
    go_wp2_with fail
    refine (HJ.out w2 hbw2).mono ?_
    rintro e w3 ⟨vj, m, rfl, htj, hj, hb3⟩
    have hbw3 := hbw2.trans (hb3.mono hbw2.size)
    have HTJ := Hid.mk' htj
    have HJJ := Hid.mk' hj
    have hml := HLen.out m hj
    obtain ⟨ja, jc, rfl, hcj⟩ := htj
    have HCJ := Hid.mk' hcj
    clear hb1 hb2 hb3 hbw2 HA HR HJ hj hcj
    go_wp2
    go_loopw [8] (fun x wr => ∃ k : Nat, x = .int .i64 k ∧ 1 ≤ k ∧ (k ≤ m.length ∨ k = 1) ∧ Below w3.heap.size w3 wr) (fun y _ => m.length - (intOf y).toNat)
    case atStart => exact ⟨1, rfl, Nat.le_refl _, .inr rfl, Below.refl _ _⟩
    case round =>
      obtain ⟨k, rfl, hk1, hk, hb⟩ := hrel
      by_cases hlt : k < m.length
      · obtain ⟨b, off, rfl, hc⟩ := HCJ.out k hlt
        obtain ⟨d0, d1, d2⟩ := three_of (w := wr) (b := b) (o := off + k * 3) (r := m.getD k default) (fun j hj => by rw [← hc j hj]; exact hb.cell (p := ⟨b, off + k * 3 + j, none⟩) (lt_of_cell (hc 0 (by omega))))
        obtain ⟨b', off', e2, hc2⟩ := HCJ.out (k - 1) (by omega)
        obtain ⟨rfl, rfl⟩ : b = b' ∧ off = off' := by simpa using e2
        obtain ⟨f0, f1, f2⟩ := three_of (w := wr) (b := b) (o := off + (k - 1) * 3) (r := m.getD (k - 1) default) (fun j hj => by rw [← hc2 j hj]; exact hb.cell (p := ⟨b, off + (k - 1) * 3 + j, none⟩) (lt_of_cell (hc2 0 (by omega))))
        have hnj := HJJ.out.nj k (by omega) hlt
        have hmq := ((m.getD (k - 1) default).may_iff).1 (HJJ.out.tbl.1 _ (getD_mem (by omega)))
        have hmr := ((m.getD k default).may_iff).1 (HJJ.out.tbl.1 _ (getD_mem hlt))
        obtain ⟨y1, y2, y3, -, -⟩ := hmq
        obtain ⟨z1, z2, z3, -, -⟩ := hmr
        clear hc hc2 e2
        generalize m.getD k default = x at *
        generalize m.getD (k - 1) default = y at *
        obtain ⟨j, rfl⟩ : ∃ j, k = j + 1 := ⟨k - 1, by omega⟩
        simp only [Nat.add_sub_cancel] at f0 f1 f2
        have hcs : (x.val == y.val) = false ∨ ((x.val == y.val) = true ∧ (x.lo == y.hi + 1) = false) := by
          by_cases h1 : x.val = y.val
          · right
            refine ⟨by simpa using h1, ?_⟩
            have h2 : ¬ (x.lo = y.hi + 1) := fun h2 => by rw [(goesOn_iff x y).2 ⟨h2, h1⟩] at hnj; cases hnj
            simpa using h2
          · left; simpa using h1
        clear hnj
        rcases hcs with h1 | ⟨h1, h2⟩
        all_goals
          go_wp2
          go_region
          go_wp2
          go_roundw
          case rel => exact ⟨j + 1 + 1, by go_num, by omega, .inl (by omega), hb.drew⟩
          case measure => simp [intOf]; omega
      · have hbw := hbw3.trans (hb.mono hbw3.size)
        have HJF1 := Hid.mk' (HJF.out m wr _ HJJ.out (HTJ.out.below hb))
        have hlt2 : m.length ≤ k := by omega
        clear hlt hk hk1
        go_wp2_with fail
        refine HJF1.out.mono ?_
        rintro e w4 ⟨rfl, hb4⟩
        have hbw4 := hbw.trans (hb4.mono hbw.size)
        have HTJ4 := Hid.mk' ((HTJ.out.below hb).below hb4)
        go_wp2_with fail
        refine (HF2.out w4 hbw4).mono ?_
        rintro e w5 ⟨rfl, rfl⟩
        go_wp2_with fail
        refine (HO.out w4 hbw4).mono ?_
        rintro e w5 ⟨vo, rfl, hto, hb5⟩
        have hbw5 := hbw4.trans (hb5.mono hbw4.size)
        have HTJ5 := Hid.mk' (HTJ4.out.below hb5)
        have HOF1 := Hid.mk' (HOF.out w5 vo hto)
        have HTO := Hid.mk' hto
        obtain ⟨oa, oc, rfl, -⟩ := hto
        go_wp2_with fail
        refine HOF1.out.mono ?_
        rintro e w6 ⟨rfl, hb6⟩
        have hbw6 := hbw5.trans (hb6.mono hbw5.size)
        have HTJ6 := Hid.mk' (HTJ5.out.below hb6)
        have HTO6 := Hid.mk' (HTO.out.below hb6)
        go_wp2_with fail
        refine (HJR.out m w6 _ HJJ.out HTJ6.out).mono ?_
        rintro e w7 ⟨rfl, hb7⟩
        have hbw7 := hbw6.trans (hb7.mono hbw6.size)
        have HTJ7 := Hid.mk' (HTJ6.out.below hb7)
        have HTO7 := Hid.mk' (HTO6.out.below hb7)
        go_wp2_with fail
        refine (HJN.out m w7 _ HJJ.out HTJ7.out).mono ?_
        rintro e w8 ⟨rfl, hb8⟩
        have hbw8 := hbw7.trans (hb8.mono hbw7.size)
        have HTO8 := Hid.mk' (HTO7.out.below hb8)
        go_wp2_with fail
        refine (HN.out w8 hbw8).mono ?_
        rintro e w9 ⟨rfl, hb9⟩
        have hbw9 := hbw8.trans (hb9.mono hbw8.size)
        have HTO9 := Hid.mk' (HTO8.out.below hb9)
        clear hb hb4 hb5 hb6 hb7 hb8 hb9
        go_wp2_with fail
        refine (HOR.out w9 _ HTO9.out).mono ?_
        rintro e w10 ⟨rfl, hb10⟩
        have hbw10 := hbw9.trans (hb10.mono hbw9.size)
        cases b1 <;> cases b2 <;> simp only [Bool.false_and, Bool.true_and, Bool.not_false, Bool.not_true, Bool.true_or, Bool.false_or, beq_self_eq_true, Bool.false_eq_true, Bool.true_beq, Bool.false_beq, Bool.not_eq_true'] at hq1 hq2
        all_goals
          go_wp2
          go_ret
          exact ⟨rfl, hbw10⟩
  · rw [decide_eq_false hx] at HR
    obtain ⟨a, cap, rfl, -⟩ := hT
    clear hg hm hx
    go_enter Tryd.func6, Tryd.ntmps6
    go_wp2_with fail
    refine HA.out.mono ?_
    rintro e w1 ⟨rfl, hb1⟩
    go_wp2_with fail
    refine (HR.out w1 hb1).mono ?_
    rintro e w2 ⟨rfl, hb2⟩
    go_wp2
    go_ret
    exact ⟨rfl, hb1.trans (hb2.mono hb1.size)⟩
end Go.Proofs.YthheplgpjhhbmaaDoor

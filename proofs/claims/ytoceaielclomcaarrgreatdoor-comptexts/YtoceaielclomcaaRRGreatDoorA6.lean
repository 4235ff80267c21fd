/-
  What is proved here: what One answers at a norm whose rows are right.
-/
import Derived.Test.YtoceaielclomcaaRRGreatDoorA5
namespace Go.Proofs.YtoceaielclomcaaRRGreatDoor
open Go.RowKit Go.Sort

theorem rw_take (l : List Rw) (k i : Nat) (hi : i < k) : rw_ (l.take k) i = rw_ l i := by
  unfold rw_; rw [List.getD, List.getD, List.getElem?_take, if_pos hi]
theorem Rows4.pre {w : World} {a : Option Addr} {cap : Nat} {l : List Rw} {k : Nat} (h : Rows4 w (.slice a l.length cap) l) (hk : k ≤ l.length) : Rows4 w (.slice a k cap) (l.take k) := by
  obtain ⟨a', cap', e, h⟩ := h
  obtain ⟨rfl, rfl⟩ : a = a' ∧ cap = cap' := by simpa using e
  have hlen : (l.take k).length = k := by simp; omega
  refine ⟨a, cap, by rw [hlen], fun j hj => ?_⟩
  rw [hlen] at hj
  rw [rw_take l k j hj]
  exact h j (by omega)
theorem rise_le {l : List Rw} {k : Nat} (h : RiseR l k) : ∀ i j, i ≤ j → j < k → (rw_ l i).fr ≤ (rw_ l j).fr := fun i j hij hj => by
  rcases Nat.eq_or_lt_of_le hij with rfl | g
  · exact Int.le_refl _
  · exact Int.le_of_lt (h i j g hj)
/-- seek among the first k rows -/
theorem seekPre_any (a : Option Addr) (cap : Nat) (l : List Rw) (k : Nat) (r : Int) (w : World) (hT : Rows4 w (.slice a l.length cap) l) (hk : k ≤ l.length) (hl : l.length ≤ 2147483648) (hm : RiseR l k) :
    Calls Tryz.prog 128 #[.slice a k cap, .int .i32 r, .func (.func 129) #[] #[]] w fun e w' => (∃ x, e = .returned (.int .i64 x) ∧ Sought k (fun i => (rw_ l i).fr) r x) ∧ Below w.heap.size w w' := by
  have hlen : (l.take k).length = k := by simp; omega
  refine (seekRow_any (.slice a k cap) (l.take k) r w (hT.pre hk) (by omega) (fun i j hij hj => ?_)).mono ?_
  · rw [hlen] at hj
    rw [rw_take l k i (by omega), rw_take l k j hj]
    exact rise_le hm i j hij hj
  · rintro e w' ⟨⟨x, rfl, h⟩, hb⟩
    rw [hlen] at h
    refine ⟨⟨x, rfl, ?_⟩, hb⟩
    rcases h with ⟨i, h1, h2, h3⟩ | ⟨h1, h2⟩
    · exact .inl ⟨i, h1, h2, by show (rw_ l i).fr = r; rw [← rw_take l k i h2]; exact h3⟩
    · exact .inr ⟨h1, fun i hi => by show (rw_ l i).fr ≠ r; rw [← rw_take l k i hi]; exact h2 i hi⟩
theorem own_slice {w : World} {B : Nat} {E : TypeId} {v : Value} {n : Nat} {xs : List Value} (h : w.ownsRow B E 1 v n xs) : ∃ a c, v = .slice a n c := by
  rcases h.2 with ⟨rfl, rfl⟩ | ⟨g, cap, cur, rfl, _⟩
  · exact ⟨_, _, rfl⟩
  · exact ⟨_, _, rfl⟩
/-- slices.Reverse at runes of one's own -/
theorem reverse_any (v : Value) (B : Nat) (rs : List Int) (w : World) (ho : w.ownsRow B 21 1 v rs.length (rs.map (Value.int .i32))) (hne : rs ≠ []) :
    Calls Tryz.prog 130 #[v] w fun e w' => e = .returned (.tuple #[]) ∧ w'.ownsRow B 21 1 v rs.reverse.length (rs.reverse.map (Value.int .i32)) ∧ ∀ {C : Nat}, C ≤ B → ∀ {w0 : World}, Below C w0 w → Below C w0 w' := by
  have hv : v ≠ .slice none 0 0 := by
    rintro rfl
    rcases ho.2 with ⟨_, h⟩ | ⟨g, cap, cur, h, _⟩
    · exact hne (List.length_eq_zero_iff.1 h)
    · cases h
  obtain ⟨g, cap, rfl, hB, hlt, hcap, hml, -, hH⟩ := Lib.holds_of_ownsRow ho hv
  have hml' := hml
  unfold maxLen at hml'
  have hc : Calls Tryz.prog 130 #[.slice (some ⟨g, 0, none⟩) rs.toArray.size cap] w _ := AnyE.slices_Reverse_arr Tryz.laysRev (Value.int .i32) (fun _ => rfl) g 0 cap rs.toArray w hH (by simp; omega)
  rw [List.size_toArray] at hc
  refine hc.mono ?_
  rintro e w' ⟨rfl, q, rfl⟩
  refine ⟨rfl, ?_, fun {C} hC {w0} hb => ?_⟩
  · have := Lib.ownsRow_putRow (q := q) (k := rs.length) (ys := rs.reverse) ho (by simp) (Nat.le_refl _)
    rw [List.take_of_length_le (by simp)] at this
    simpa using this
  · exact Lib.below_putRow hb (by omega)
set_option maxRecDepth 20000 in
set_option maxHeartbeats 4000000 in
theorem one_any (a : Option Addr) (cap : Nat) (vc ve : Value) (l : List Rw) (hcap : l.length ≤ cap) (r : Int) (w : World) (hg : Hg w) (hT : Rows4 w (.slice a l.length cap) l) (hl : l.length ≤ 2000) (hc : ∀ i, i < l.length → rowCode l i = 0) :
    Calls Tryz.prog 90 #[.agg #[.slice a l.length cap, vc, ve], .int .i32 r] w fun e w' => ∃ v, e = .returned v ∧ w'.ownsRow w.heap.size 21 1 v (oneM l r).length ((oneM l r).map (Value.int .i32)) ∧ Below w.heap.size w w' := by
  have hr := rise_of hc
  have hb0 : Below w.heap.size w (w.alloc (.cells #[.slice a l.length cap, vc, ve] 39)) := (Below.refl _ w).alloc (Nat.le_refl _) _
  have g0 := (hg.below hb0).h0
  have g1 := (hg.below hb0).h1
  by_cases hs : 44032 ≤ r ∧ r ≤ 55203
  · have e1 : oneM l r = sylM r := by unfold oneM isSyl; rw [decide_eq_true hs]; rfl
    rw [e1]
    have HS := Hid.mk' (syllable_any r (w.alloc (.cells #[.slice a l.length cap, vc, ve] 39)) (hg.below hb0) hs.1 hs.2)
    generalize sylM r = res at *
    obtain ⟨s1, s2⟩ := hs
    have HB := Hid.mk' hb0
    clear hc hr hg hT e1 hb0
    go_enter Tryz.func90, Tryz.ntmps90
    go_wp2_with fail
    refine HS.out.mono ?_
    rintro e w1 ⟨v, rfl, ho, hb⟩
    obtain ⟨va, vcap, rfl⟩ := own_slice ho
    go_wp2
    go_ret
    exact ⟨_, rfl, own_weaken ho (by simp), HB.out.trans (hb.mono HB.out.size)⟩
  · have e1 : oneM l r = oneIn l l.length r := by unfold oneM isSyl; rw [decide_eq_false hs]; rfl
    rw [e1]
    clear e1
    obtain ⟨i0, hi, hz0, hz1, hz2⟩ := info_parts Tryz.infoRune
    have HK : Hid (∀ W k x, Below w.heap.size w W → k ≤ l.length → _) := fun W k x hb hk => seekPre_any a cap l k x W (hT.below hb) hk (by omega) (fun i j hij hj => hr i j hij (by omega))
    have HR : Hid (∀ i, i < l.length → ((rw_ l i).to.length = 1 ∨ (rw_ l i).to.length = 2)) := fun i hi => (formed_parts (rowCode_zero (hc i hi)).2.2.1).1
    have HT : Hid (Rows4 w (.slice a l.length cap) l) := hT
    have HI : Hid (∀ k i x, i < k → k ≤ l.length → (rw_ l i).fr = x → oneIn l k x = oneIn l i (rw_ l i).to0 ++ (rw_ l i).to.drop 1) := fun k i x hik hk e => one_hit l k i x hik (fun a b hab hb => hr a b hab (by omega)) e
    have HN : Hid (∀ k x, (∀ j, j < k → (rw_ l j).fr ≠ x) → oneIn l k x = [x]) := fun k x h => one_miss l k x h
    have hsd : (44032 ≤ r → 55203 < r) := fun h => by omega
    have HB := Hid.mk' hb0
    obtain ⟨res, hres⟩ : ∃ res, oneIn l l.length r = res := ⟨_, rfl⟩
    rw [hres]
    have HRES := Hid.mk' hres
    clear hres hc hr hg hT hb0 hs
    go_enter Tryz.func90, Tryz.ntmps90
    rcases Int.lt_or_le r 44032 with hlo | hlo
    all_goals
      go_wp2
      go_loopw [1, 5, 6] (fun x bv av wr => ∃ (k : Nat) (z : Int) (bk : List Int), x = .int .i32 z ∧ av = .slice a k cap ∧ k ≤ l.length ∧ wr.ownsRow (w.heap.size + 1) 21 1 bv bk.length (bk.map (Value.int .i32)) ∧ bk.length + k ≤ l.length ∧ Hid (res = oneIn l k z ++ bk.reverse) ∧ Below w.heap.size w wr ∧ w.heap.size + 1 ≤ wr.heap.size) (fun _ _ y _ => match y with | .slice _ n _ => n | _ => 0)
      case atStart => exact ⟨l.length, r, [], rfl, rfl, Nat.le_refl _, World.ownsRow_nil _ _ _ _, by simp, by rw [← HRES.out]; simp [Hid], HB.out, by simp⟩
      case round =>
        obtain ⟨k, z, bk, rfl, rfl, hk, ho, hbk, hE, hb, hsz⟩ := hrel
        obtain ⟨ba, bcap, rfl⟩ := own_slice ho
        have HKk := Hid.mk' (HK.out wr k z hb hk)
        go_wp2_with fail
        refine HKk.out.mono ?_
        rintro e w1 ⟨⟨x, rfl, hx⟩, hb1⟩
        have hbw := hb.trans (hb1.mono hb.size)
        have ho1 := owns_below ho hb1
        have hs1 := hb1.size
        clear HKk ho
        rcases hx with ⟨i, rfl, hik, hfr⟩ | ⟨rfl, hno⟩
        · have hEi : Hid (oneIn l k z = oneIn l i (rw_ l i).to0 ++ (rw_ l i).to.drop 1) := HI.out k i z hik hk hfr
          have hil : i < l.length := by omega
          obtain ⟨a', cap', e', hTj⟩ := HT.out
          obtain ⟨rfl, rfl⟩ : a = a' ∧ cap = cap' := by simpa using e'
          obtain ⟨b, off, tv, rfl, -, d1w, ta, tcap, rfl, hR⟩ := hTj i hil
          have d1 := (hbw.cell (p := ⟨b, off + i * 2 + 1, none⟩) (lt_of_cell d1w)).trans d1w
          clear d1w
          have h12 := HR.out i hil
          obtain ⟨tb, toff, rfl, c0w⟩ := hR 0 (by omega)
          rw [Nat.add_zero] at c0w
          have h00 : Hid ((rw_ l i).to.getD 0 0 = (rw_ l i).to0) := rfl
          rw [h00.out] at c0w
          have HC0 : Hid (∀ W, Below w.heap.size w W → W.cell? ⟨tb, toff, none⟩ = some (.int .i32 (rw_ l i).to0)) := fun W hb => (hb.cell (p := ⟨tb, toff, none⟩) (lt_of_cell c0w)).trans c0w
          clear c0w
          have hic : (i : Int) ≤ (cap : Int) := by omega
          have hir : (i : Int) < (k : Int) := by omega
          rcases h12 with h1 | h2
          · have hD : Hid ((rw_ l i).to.drop 1 = []) := List.drop_eq_nil_of_le (by omega)
            rw [h1] at d1
            clear hR hTj e' hfr h1
            have c0 := HC0.out w1 hbw
            clear HC0
            generalize (rw_ l i).to0 = t0 at *
            generalize (rw_ l i).to.drop 1 = tl at *
            go_wp2
            go_region
            go_wp2
            go_roundw
            case rel => exact ⟨i, t0, bk, rfl, rfl, by omega, ho1.drew, by omega, by show res = _; rw [hE.out, hEi.out, hD.out, List.append_nil], hbw.drew, by show _ ≤ w1.heap.size; omega⟩
            case measure => simp; omega
          · obtain ⟨tb2, toff2, e2, c1w⟩ := hR 1 (by omega)
            obtain ⟨rfl, rfl⟩ : tb = tb2 ∧ toff = toff2 := by simpa using e2
            have c1 := (hbw.cell (p := ⟨tb, toff + 1, none⟩) (lt_of_cell c1w)).trans c1w
            clear c1w
            have hD : Hid ((rw_ l i).to.drop 1 = [(rw_ l i).to1]) := by
              obtain ⟨q0, q1, hq⟩ : ∃ q0 q1, (rw_ l i).to = [q0, q1] := by
                match (rw_ l i).to, h2 with
                | [q0, q1], _ => exact ⟨q0, q1, rfl⟩
              show _ = _
              unfold Rw.to1; rw [hq]; rfl
            have h11 : Hid ((rw_ l i).to.getD 1 0 = (rw_ l i).to1) := rfl
            rw [h2] at d1
            rw [h11.out] at c1
            clear hR hTj e' e2 hfr h2 h00 h11
            generalize (rw_ l i).to0 = t0 at *
            generalize (rw_ l i).to1 = t1 at *
            generalize (rw_ l i).to.drop 1 = tl at *
            have hbl : bk.length < 2001 := by omega
            go_wp2_with (at_builtin; (refine wpList_append_own _ rfl _ _ 37 rfl (w.heap.size + 1) 21 i0 (.int .i32 0) 1 4 Tryz.underlying37 hi hz0 hz1 hz2 rfl (by decide) _ _ _ rfl (ho1.alloc _) ⟨w1.heap.size, 0, none⟩ 1 1 [.int .i32 t1] rfl rfl (cell_one_new _ _ _) (by intro u hu; simp at hu; subst hu; rfl) (by unfold maxLen; omega) (by omega) (by simp; omega) ?_; intro v' w2 hown' hgrow _))
            have hbw2 : Below w.heap.size w w2 := (hbw.alloc hbw.size _).grown hgrow (by simp; omega) (fun j hj => by have := (ho1.lt j hj).1; omega)
            have hsz2 : w.heap.size + 1 ≤ w2.heap.size := by have := hgrow.size; simp at this; omega
            have R2 : w2.ownsRow (w.heap.size + 1) 21 1 v' (bk ++ [t1]).length ((bk ++ [t1]).map (Value.int .i32)) := by simpa using hown'
            have c0 := HC0.out w2 hbw2
            clear HC0 hown' hgrow d1 c1
            go_region
            go_wp2
            go_roundw
            case rel => exact ⟨i, t0, bk ++ [t1], rfl, rfl, by omega, R2.drew, by simp; omega, by show res = _; rw [hE.out, hEi.out, hD.out, List.reverse_append, List.append_assoc]; rfl, hbw2.drew, hsz2⟩
            case measure => simp; omega
        · have hN : Hid (oneIn l k z = [z]) := HN.out k z hno
          clear hno
          have hbl : bk.length < 2001 := by omega
          go_wp2_with (at_builtin; (refine wpList_append_own _ rfl _ _ 37 rfl (w.heap.size + 1) 21 i0 (.int .i32 0) 1 4 Tryz.underlying37 hi hz0 hz1 hz2 rfl (by decide) _ _ _ rfl (ho1.alloc _) ⟨w1.heap.size, 0, none⟩ 1 1 [.int .i32 z] rfl rfl (cell_one_new _ _ _) (by intro u hu; simp at hu; subst hu; rfl) (by unfold maxLen; omega) (by omega) (by simp; omega) ?_; intro v' w2 hown' hgrow _))
          have hbw2 : Below w.heap.size w w2 := (hbw.alloc hbw.size _).grown hgrow (by simp; omega) (fun j hj => by have := (ho1.lt j hj).1; omega)
          have R2 : w2.ownsRow (w.heap.size + 1) 21 1 v' (bk ++ [z]).length ((bk ++ [z]).map (Value.int .i32)) := by simpa using hown'
          have HV := Hid.mk' (reverse_any v' _ (bk ++ [z]) w2 R2 (by simp))
          obtain ⟨va, vcap, rfl⟩ := own_slice R2
          clear hown' hgrow
          go_wp2_with fail
          refine HV.out.mono ?_
          rintro e w3 ⟨rfl, ho3, hb3⟩
          have hbw3 := hb3 (Nat.le_succ _) hbw2
          go_wp2
          go_ret
          refine ⟨_, rfl, ?_, hbw3⟩
          have e9 : res = (bk ++ [z]).reverse := by rw [hE.out, hN.out, List.reverse_append]; rfl
          rw [e9]
          rw [show (bk ++ [z]).length = bk.length + 1 by simp] at ho3
          exact own_weaken ho3 (Nat.le_succ _)
end Go.Proofs.YtoceaielclomcaaRRGreatDoor

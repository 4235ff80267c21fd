/-
  What is proved here: values that lie in new memory alone; what jsonval.copiedList answers, if copied does. · what jsonval.copiedMembers answers, if copied does.
-/
import Derived.Test.YtjjoedkigjekcaaGreatDoorKF
import Derived.Test.YtjjoedkigjekcaaGreatDoorKE
namespace Go.Proofs.YtjjoedkigjekcaaGreatDoor
open Go.RowKit

/-- the blocks from B on of one world are in another one as they are there -/
def Agree (B : Nat) (W W' : World) : Prop := ∀ k, B ≤ k → k < W.heap.size → W'.heap[k]? = W.heap[k]?
theorem Agree.refl (B : Nat) (W : World) : Agree B W W := fun _ _ _ => rfl
theorem Agree.below {B : Nat} {W W' : World} (h : Below W.heap.size W W') : Agree B W W' := fun k _ hk => h.block k hk
theorem Agree.trans {B : Nat} {W W1 W2 : World} (h : Agree B W W1) (hs : W.heap.size ≤ W1.heap.size) (h' : Agree B W1 W2) : Agree B W W2 := fun k h1 h2 => (h' k h1 (by omega)).trans (h k h1 h2)
theorem Agree.store {B : Nat} (W : World) (g o : Nat) (u : Value) (hg : g < B) : Agree B W (W.setCell ⟨g, o, none⟩ u) := fun k h1 _ => heap_setCell_other W ⟨g, o, none⟩ k u (by intro e; have : k = g := e; omega)
theorem Agree.base {B B' : Nat} {W W' : World} (h : Agree B W W') (hB : B ≤ B') : Agree B' W W' := fun k h1 h2 => h k (by omega) h2
/-- a value that lies in blocks from B on alone -/
def VA (B : Nat) (W : World) (t : J) (cs : List Value) : Prop := ∀ W', Agree B W W' → VJ W' t cs
theorem VA.vj {B : Nat} {W : World} {t : J} {cs : List Value} (h : VA B W t cs) : VJ W t cs := h W (Agree.refl _ _)
theorem VA.keep {B : Nat} {W W1 : World} {t : J} {cs : List Value} (h : VA B W t cs) (hs : W.heap.size ≤ W1.heap.size) (hk : Agree B W W1) : VA B W1 t cs := fun W' h' => h W' (hk.trans hs h')
theorem VA.base {B B' : Nat} {W : World} {t : J} {cs : List Value} (h : VA B W t cs) (hB : B' ≤ B) : VA B' W t cs := fun W' h' => h W' (h'.base hB)
/-- what is asked of copied at a value -/
def CopAt (t : J) : Prop := ∀ (cs : List Value) (w : World), VJ w t cs → Calls Tryz.prog 43 #[.agg cs.toArray] w fun e w' => ∃ cs', e = .returned (.agg cs'.toArray) ∧ VA w.heap.size w' t cs' ∧ Below w.heap.size w w'
theorem flatL_at : ∀ {L : List (J × List Value)} {j : Nat} {t : J} {cs : List Value}, (∀ x ∈ L, x.2.length = 4) → L[j]? = some (t, cs) → ∀ q, q < 4 → (flatL L)[j * 4 + q]? = cs[q]?
  | [], j, t, cs, _, h, q, hq => by simp at h
  | x :: L, 0, t, cs, h4, h, q, hq => by
    have hx : x = (t, cs) := by simpa using h
    subst hx
    have e : flatL ((t, cs) :: L) = cs ++ flatL L := by simp [flatL]
    rw [e, List.getElem?_append_left (by have := h4 (t, cs) (by simp); simp only [] at this; omega), Nat.zero_mul, Nat.zero_add]
  | x :: L, j + 1, t, cs, h4, h, q, hq => by
    have hx := h4 x (by simp)
    have e : flatL (x :: L) = x.2 ++ flatL L := by simp [flatL]
    rw [e, List.getElem?_append_right (by omega), hx, show (j + 1) * 4 + q - 4 = j * 4 + q from by omega]
    exact flatL_at (fun y hy => h4 y (by simp [hy])) (by simpa using h) q hq
/-- four cells written one behind the other -/
theorem set_four {A B : List Value} {d0 d1 d2 d3 c0 c1 c2 c3 : Value} {n : Nat} (hn : A.length = n) :
    ((((A ++ d0 :: d1 :: d2 :: d3 :: B).set n c0).set (n + 1) c1).set (n + 2) c2).set (n + 3) c3 = A ++ c0 :: c1 :: c2 :: c3 :: B := by
  subst hn
  simp [List.set_append_right]
theorem slv_own {B : Nat} {W : World} {v : Value} {N : List (J × List Value)} {T : TypeId} (ho : W.ownsRow B T 4 v N.length (flatL N)) (hN : ∀ x ∈ N, VA B W x.1 x.2) : ∀ W', Agree B W W' → SL W' v (N.map fun x => x.1) := by
  intro W' hA
  have h4 : ∀ x ∈ N, x.2.length = 4 := fun x hx => (hN x hx).vj.len
  have ho' := ho
  rcases ho.2 with ⟨rfl, h0⟩ | ⟨g, cap, cur, rfl, hg, _⟩
  · refine ⟨none, 0, by rw [List.length_map, h0], fun j t hj => ?_⟩
    have := (List.getElem?_eq_some_iff.1 hj).1
    rw [List.length_map] at this
    omega
  · refine ⟨some ⟨g, 0, none⟩, cap, by rw [List.length_map], fun j t hj => ?_⟩
    rw [List.getElem?_map] at hj
    cases e : N[j]? with
    | none => rw [e] at hj; cases hj
    | some x =>
      rw [e] at hj
      cases hj
      have hjl := (List.getElem?_eq_some_iff.1 e).1
      have hx4 := h4 x (List.mem_of_getElem? e)
      have hlt := (ho'.lt g rfl).2
      refine ⟨g, 0, x.2, rfl, ⟨hx4, fun i u hu => ?_⟩, hN x (List.mem_of_getElem? e) W' hA⟩
      have hi : i < 4 := by
        have := (List.getElem?_eq_some_iff.1 hu).1
        omega
      rw [World.cell?_of_block (w := W) (a := ⟨g, 0 + j * 4 + i, none⟩) (hA g hg hlt), Nat.zero_add, ho'.cellAt (j * 4 + i) (by omega), flatL_at h4 (t := x.1) (cs := x.2) e i hi]
      exact hu
set_option maxRecDepth 20000 in
set_option maxHeartbeats 8000000 in
theorem copiedList_of (l : List J) (ih : ∀ t ∈ l, CopAt t) (hl : l.length ≤ 100000) (a : Option Addr) (ca : Nat) (w : World) (hL : ∀ j t, l[j]? = some t → ∃ ba oa ds, a = some ⟨ba, oa, none⟩ ∧ CellsAt w ba (oa + j * 4) ds 4 ∧ VJ w t ds) :
    Calls Tryz.prog 48 #[.slice a l.length ca] w fun e w' => ∃ v', e = .returned v' ∧ (∀ W', Agree w.heap.size w' W' → SL W' v' l) ∧ Below w.heap.size w w' := by
  obtain ⟨L, rfl, hLv, hLr⟩ := rows_of hL
  rw [List.length_map] at hl ⊢
  have h4 : ∀ x ∈ L, x.2.length = 4 := fun x hx => (hLv x hx).len
  have HCL := Hid.mk' (cloneV_any a L.length ca (flatL L) w (flatL_len h4) hLr (flatL_one hLv) hl)
  have HIH : Hid (∀ x ∈ L, CopAt x.1) := fun x hx => ih x.1 (List.mem_map_of_mem (f := fun x : J × List Value => x.1) hx)
  have HLV := Hid.mk' hLv
  have HT : Hid (∀ W W', Below w.heap.size w W → Below W.heap.size W W' → Below w.heap.size w W') := below_tr
  obtain ⟨n, hn⟩ : ∃ n, L.length = n := ⟨_, rfl⟩
  have HN := Hid.mk' hn
  rw [hn] at HCL hl ⊢
  clear hL hLr hLv h4 ih hn
  go_enter Tryz.func48, Tryz.ntmps48
  go_wp2_with fail
  refine HCL.out.mono ?_
  rintro e w1 ⟨v1, rfl, hown, hb1⟩
  obtain ⟨a1, c1, rfl⟩ := own_form hown
  have HO1 : Hid (w1.ownsRow w.heap.size 25 4 (.slice a1 n c1) n (flatL ([] ++ L.drop 0))) := hown
  have HG : Hid (0 < n → ∃ g, a1 = some ⟨g, 0, none⟩ ∧ w.heap.size ≤ g ∧ g < w1.heap.size) := fun h => by
    obtain ⟨g, cap, e, h1, h2⟩ := hown.form h
    injection e with e1
    exact ⟨g, e1, h1, h2⟩
  have hs1 := hb1.size
  clear HCL hown
  go_wp2
  go_loopw [10] (fun x10 wr => ∃ (i : Nat) (M : List (J × List Value)), x10 = .int .i64 i ∧ i ≤ n ∧ w1.heap.size ≤ wr.heap.size ∧ Hid (M.length = i ∧ M.map (fun x => x.1) = (L.take i).map fun x => x.1) ∧ Hid (∀ x ∈ M, VA w1.heap.size wr x.1 x.2) ∧ Hid (wr.ownsRow w.heap.size 25 4 (.slice a1 n c1) n (flatL (M ++ L.drop i))) ∧ Below w.heap.size w wr) (fun x10 _ => n - (intOf x10).toNat)
  case atStart => exact ⟨0, [], rfl, Nat.zero_le _, Nat.le_refl _, ⟨rfl, rfl⟩, Hid.mk' (by simp), HO1, hb1⟩
  case round =>
    clear HO1 hb1
    obtain ⟨i, M, rfl, hi, hsr, HM, HV, HO, hbr⟩ := hrel
    by_cases hlt : i < n
    · obtain ⟨g, rfl, hgB, hg1⟩ := HG.out (by omega)
      obtain ⟨x, hx⟩ : ∃ x, L[i]? = some x := get_lt (by rw [HN.out]; exact hlt)
      have hxm := List.mem_of_getElem? hx
      obtain ⟨t, cs⟩ := x
      have hdr : L.drop i = (t, cs) :: L.drop (i + 1) := drop_get hx
      have hvt : VJ w t cs := HLV.out _ hxm
      obtain ⟨aa, cca, bb, ccb, rfl⟩ := hvt.cells
      have h4m : ∀ y ∈ M, y.2.length = 4 := fun y hy => (HV.out y hy).vj.len
      have hfl : (flatL M).length = i * 4 := by rw [flatL_len h4m, HM.out.1]
      have hO := HO.out
      rw [hdr] at hO
      have hflat : ∀ c0 c1 c2 c3, flatL (M ++ (t, [c0, c1, c2, c3]) :: L.drop (i + 1)) = flatL M ++ c0 :: c1 :: c2 :: c3 :: flatL (L.drop (i + 1)) := fun c0 c1 c2 c3 => by rw [flatL_append]; simp [flatL]
      rw [hflat] at hO
      have hcell : ∀ W : World, W.ownsRow w.heap.size 25 4 (.slice (some ⟨g, 0, none⟩) n c1) n (flatL M ++ .int .i64 t.k :: .string (strL t.s) :: .slice aa t.l.length cca :: .slice bb t.m.length ccb :: flatL (L.drop (i + 1))) → (W.cell? ⟨g, i * 4, none⟩ = some (.int .i64 t.k) ∧ W.cell? ⟨g, i * 4 + 1, none⟩ = some (.string (strL t.s)) ∧ W.cell? ⟨g, i * 4 + 2, none⟩ = some (.slice aa t.l.length cca) ∧ W.cell? ⟨g, i * 4 + 3, none⟩ = some (.slice bb t.m.length ccb)) ∧ W.frozen? ⟨g, i * 4, none⟩ = false ∧ W.frozen? ⟨g, i * 4 + 1, none⟩ = false ∧ W.frozen? ⟨g, i * 4 + 2, none⟩ = false ∧ W.frozen? ⟨g, i * 4 + 3, none⟩ = false := fun W h => by
        have at_ : ∀ q, q < 4 → W.cell? ⟨g, i * 4 + q, none⟩ = [Value.int .i64 t.k, .string (strL t.s), .slice aa t.l.length cca, .slice bb t.m.length ccb][q]? := fun q hq => by
          rw [h.cellAt (i * 4 + q) (by omega), List.getElem?_append_right (by omega), hfl, Nat.add_sub_cancel_left]
          match q, hq with
          | 0, _ => rfl
          | 1, _ => rfl
          | 2, _ => rfl
          | 3, _ => rfl
        exact ⟨⟨at_ 0 (by omega), at_ 1 (by omega), at_ 2 (by omega), at_ 3 (by omega)⟩, h.frozenAt _, h.frozenAt _, h.frozenAt _, h.frozenAt _⟩
      obtain ⟨⟨g0, g1, g2, g3⟩, -⟩ := hcell wr hO
      obtain ⟨W2, hW2, hsz2, hb2, p0, p1, p2, p3⟩ := val_box wr (.int .i64 t.k) (.string (strL t.s)) (.slice aa t.l.length cca) (.slice bb t.m.length ccb)
      have hbw2 := HT.out _ _ hbr hb2
      have HC := Hid.mk' (HIH.out _ hxm _ W2 (hvt.below hbw2))
      have HO2 := Hid.mk' (owns_below hO hb2)
      have HV2 : Hid (∀ x ∈ M, VA w1.heap.size W2 x.1 x.2) := fun x hx => (HV.out x hx).keep hb2.size (Agree.below hb2)
      have HCELL := Hid.mk' hcell
      have HFL := Hid.mk' hfl
      have HFT := Hid.mk' hflat
      have HTK : Hid ((L.take (i + 1)).map (fun x => x.1) = (L.take i).map (fun x => x.1) ++ [t]) := by
        show _ = _
        rw [List.take_add_one, hx]; simp
      clear HV HO hO hcell hfl hflat h4m hx hxm hdr hvt HIH HLV hbr
      generalize strL t.s = S at *
      generalize t.k = tk at *
      generalize t.l.length = tl at *
      generalize t.m.length = tm at *
      go_wp2_with fail
      refine HC.out.mono ?_
      rintro e w3 ⟨cs', rfl, hva, hb3⟩
      obtain ⟨aa', cca', bb', ccb', rfl⟩ := hva.vj.cells
      have hO3 := owns_below HO2.out hb3
      obtain ⟨⟨h0, h1, h2, h3⟩, f0, f1, f2, f3⟩ := HCELL.out w3 hO3
      have hs0 := (hO3.stored (i * 4) (.int .i64 t.k)).1
      have hs1 := (hs0.stored (i * 4 + 1) (.string (strL t.s))).1
      have hs2 := (hs1.stored (i * 4 + 2) (.slice aa' t.l.length cca')).1
      have hs3 := (hs2.stored (i * 4 + 3) (.slice bb' t.m.length ccb')).1
      rw [set_four HFL.out, ← HFT.out] at hs3
      have hb4 : Below w.heap.size w ((((w3.setCell ⟨g, i * 4, none⟩ (.int .i64 t.k)).setCell ⟨g, i * 4 + 1, none⟩ (.string (strL t.s))).setCell ⟨g, i * 4 + 2, none⟩ (.slice aa' t.l.length cca')).setCell ⟨g, i * 4 + 3, none⟩ (.slice bb' t.m.length ccb')) :=
        ((((HT.out _ _ hbw2 hb3).setCell (p := ⟨g, i * 4, none⟩) hgB _).setCell (p := ⟨g, i * 4 + 1, none⟩) hgB _).setCell (p := ⟨g, i * 4 + 2, none⟩) hgB _).setCell (p := ⟨g, i * 4 + 3, none⟩) hgB _
      have hag : Agree w1.heap.size w3 ((((w3.setCell ⟨g, i * 4, none⟩ (.int .i64 t.k)).setCell ⟨g, i * 4 + 1, none⟩ (.string (strL t.s))).setCell ⟨g, i * 4 + 2, none⟩ (.slice aa' t.l.length cca')).setCell ⟨g, i * 4 + 3, none⟩ (.slice bb' t.m.length ccb')) :=
        (((Agree.store w3 g (i * 4) _ hg1).trans (by simp) (Agree.store _ g (i * 4 + 1) _ hg1)).trans (by simp) (Agree.store _ g (i * 4 + 2) _ hg1)).trans (by simp) (Agree.store _ g (i * 4 + 3) _ hg1)
      have hszw : w3.heap.size ≤ ((((w3.setCell ⟨g, i * 4, none⟩ (.int .i64 t.k)).setCell ⟨g, i * 4 + 1, none⟩ (.string (strL t.s))).setCell ⟨g, i * 4 + 2, none⟩ (.slice aa' t.l.length cca')).setCell ⟨g, i * 4 + 3, none⟩ (.slice bb' t.m.length ccb')).heap.size := by simp
      have HVN : Hid (∀ x ∈ M ++ [(t, [Value.int .i64 t.k, .string (strL t.s), .slice aa' t.l.length cca', .slice bb' t.m.length ccb'])], VA w1.heap.size ((((w3.setCell ⟨g, i * 4, none⟩ (.int .i64 t.k)).setCell ⟨g, i * 4 + 1, none⟩ (.string (strL t.s))).setCell ⟨g, i * 4 + 2, none⟩ (.slice aa' t.l.length cca')).setCell ⟨g, i * 4 + 3, none⟩ (.slice bb' t.m.length ccb')) x.1 x.2) := fun x hx => by
        rcases List.mem_append.1 hx with h | h
        · exact ((HV2.out x h).keep hb3.size (Agree.below hb3)).keep hszw hag
        · obtain rfl := List.mem_singleton.1 h
          exact (hva.base (by omega)).keep hszw hag
      have hsN : w1.heap.size ≤ ((((w3.setCell ⟨g, i * 4, none⟩ (.int .i64 t.k)).setCell ⟨g, i * 4 + 1, none⟩ (.string (strL t.s))).setCell ⟨g, i * 4 + 2, none⟩ (.slice aa' t.l.length cca')).setCell ⟨g, i * 4 + 3, none⟩ (.slice bb' t.m.length ccb')).heap.size := by have := hb3.size; omega
      have HON : Hid (((((w3.setCell ⟨g, i * 4, none⟩ (.int .i64 t.k)).setCell ⟨g, i * 4 + 1, none⟩ (.string (strL t.s))).setCell ⟨g, i * 4 + 2, none⟩ (.slice aa' t.l.length cca')).setCell ⟨g, i * 4 + 3, none⟩ (.slice bb' t.m.length ccb')).ownsRow w.heap.size 25 4 (.slice (some ⟨g, 0, none⟩) n c1) n (flatL ((M ++ [(t, [Value.int .i64 t.k, .string (strL t.s), .slice aa' t.l.length cca', .slice bb' t.m.length ccb'])]) ++ L.drop (i + 1)))) := by
        rw [List.append_assoc]
        exact hs3
      have HMN : Hid ((M ++ [(t, [Value.int .i64 t.k, .string (strL t.s), .slice aa' t.l.length cca', .slice bb' t.m.length ccb'])]).length = i + 1 ∧ (M ++ [(t, [Value.int .i64 t.k, .string (strL t.s), .slice aa' t.l.length cca', .slice bb' t.m.length ccb'])]).map (fun x => x.1) = (L.take (i + 1)).map fun x => x.1) := by
        refine ⟨by rw [List.length_append, HM.out.1]; rfl, ?_⟩
        rw [HTK.out, List.map_append, HM.out.2]; rfl
      generalize M ++ [(t, [Value.int .i64 t.k, .string (strL t.s), .slice aa' t.l.length cca', .slice bb' t.m.length ccb'])] = MN at *
      clear hva hO3 hs0 hs1 hs2 hs3 hag hszw HC HO2 HV2 HCELL HFL HFT HTK HM hb3 hbw2 g0 g1 g2 g3
      generalize strL t.s = S at *
      generalize t.k = tk at *
      generalize t.l.length = tl at *
      generalize t.m.length = tm at *
      go_wp2
      go_roundw
      case rel => exact ⟨i + 1, MN, by go_num, by omega, hsN, HMN, HVN, HON, hb4⟩
      case measure => simp [intOf]; omega
    · obtain rfl : i = n := by omega
      have HOF : Hid (wr.ownsRow w.heap.size 25 4 (.slice a1 i c1) M.length (flatL M)) := by
        have h := HO.out
        rw [List.drop_eq_nil_of_le (by rw [HN.out]; omega), List.append_nil] at h
        show wr.ownsRow _ _ _ _ _ _
        rw [HM.out.1]; exact h
      have HMF : Hid (M.map (fun x => x.1) = L.map fun x => x.1) := by
        have h := HM.out.2
        rwa [List.take_of_length_le (by rw [HN.out]; omega)] at h
      clear HO HM HIH
      go_wp2
      go_ret
      refine ⟨_, rfl, ?_, hbr⟩
      have h := slv_own HOF.out (fun x hx => (HV.out x hx).base hs1)
      rw [HMF.out] at h
      exact h
end Go.Proofs.YtjjoedkigjekcaaGreatDoor
namespace Go.Proofs.YtjjoedkigjekcaaGreatDoor
open Go.RowKit

def flatM (L : List ((List UInt8 × J) × List Value)) : List Value := L.flatMap fun x => .string (strL x.1.1) :: x.2
theorem flatM_len {L : List ((List UInt8 × J) × List Value)} (h : ∀ x ∈ L, x.2.length = 4) : (flatM L).length = L.length * 5 := by
  induction L with
  | nil => rfl
  | cons a L ih =>
    have h1 := h a (by simp)
    have h2 := ih (fun x hx => h x (by simp [hx]))
    unfold flatM at *
    rw [List.flatMap_cons, List.length_append, List.length_cons, List.length_cons]; omega
theorem flatM_append (L M : List ((List UInt8 × J) × List Value)) : flatM (L ++ M) = flatM L ++ flatM M := by simp [flatM]
theorem flatM_one {W : World} {L : List ((List UInt8 × J) × List Value)} (h : ∀ x ∈ L, VJ W x.1.2 x.2) : ∀ u ∈ flatM L, u.oneCell' = true := by
  intro u hu
  obtain ⟨x, hx, hu⟩ := List.mem_flatMap.1 hu
  rcases List.mem_cons.1 hu with rfl | hu
  · rfl
  · exact (h x hx).one u hu
theorem flatM_at : ∀ {L : List ((List UInt8 × J) × List Value)} {j : Nat} {t : List UInt8 × J} {cs : List Value}, (∀ x ∈ L, x.2.length = 4) → L[j]? = some (t, cs) → ∀ q, q < 5 → (flatM L)[j * 5 + q]? = (Value.string (strL t.1) :: cs)[q]?
  | [], j, t, cs, _, h, q, hq => by simp at h
  | x :: L, 0, t, cs, h4, h, q, hq => by
    have hx : x = (t, cs) := by simpa using h
    subst hx
    have e : flatM ((t, cs) :: L) = (.string (strL t.1) :: cs) ++ flatM L := by simp [flatM]
    rw [e, List.getElem?_append_left (by have := h4 (t, cs) (by simp); simp only [] at this; rw [List.length_cons]; omega), Nat.zero_mul, Nat.zero_add]
  | x :: L, j + 1, t, cs, h4, h, q, hq => by
    have hx := h4 x (by simp)
    have e : flatM (x :: L) = (.string (strL x.1.1) :: x.2) ++ flatM L := by simp [flatM]
    have hl : (Value.string (strL x.1.1) :: x.2).length = 5 := by rw [List.length_cons, hx]
    rw [e, List.getElem?_append_right (by omega), hl, show (j + 1) * 5 + q - 5 = j * 5 + q from by omega]
    exact flatM_at (fun y hy => h4 y (by simp [hy])) (by simpa using h) q hq
theorem rowsM_from {w : World} {ba : Nat} : ∀ (l : List (List UInt8 × J)) (o : Nat), (∀ j x, l[j]? = some x → ∃ ds, CellsAt w ba (o + j * 5) (.string (strL x.1) :: ds) 5 ∧ VJ w x.2 ds) →
    ∃ L : List ((List UInt8 × J) × List Value), L.map (fun x => x.1) = l ∧ (∀ x ∈ L, VJ w x.1.2 x.2) ∧ ∀ j u, (flatM L)[j]? = some u → w.cell? ⟨ba, o + j, none⟩ = some u
  | [], o, _ => ⟨[], rfl, by simp, fun j u h => by simp [flatM] at h⟩
  | t :: l, o, h => by
    obtain ⟨ds, hc, hv⟩ := h 0 t rfl
    obtain ⟨L, h1, h2, h3⟩ := rowsM_from l (o + 5) (fun j t hj => by
      obtain ⟨ds, hc, hv⟩ := h (j + 1) t (by simpa using hj)
      exact ⟨ds, by rw [show o + 5 + j * 5 = o + (j + 1) * 5 from by omega]; exact hc, hv⟩)
    refine ⟨(t, ds) :: L, by simp [h1], ?_, ?_⟩
    · intro x hx
      rcases List.mem_cons.1 hx with rfl | hx
      · exact hv
      · exact h2 x hx
    · intro j u hu
      have e : flatM ((t, ds) :: L) = (.string (strL t.1) :: ds) ++ flatM L := by simp [flatM]
      rw [e] at hu
      rcases Nat.lt_or_ge j 5 with g | g
      · rw [List.getElem?_append_left (by rw [hc.1]; exact g)] at hu
        have := hc.2 j u hu
        rwa [show o + 0 * 5 + j = o + j from by omega] at this
      · rw [List.getElem?_append_right (by rw [hc.1]; exact g), hc.1] at hu
        have := h3 (j - 5) u hu
        rwa [show o + 5 + (j - 5) = o + j from by omega] at this
theorem rowsM_of {w : World} {a : Option Addr} {l : List (List UInt8 × J)} (h : MemAt w a l) :
    ∃ L : List ((List UInt8 × J) × List Value), L.map (fun x => x.1) = l ∧ (∀ x ∈ L, VJ w x.1.2 x.2) ∧ ∀ j u, (flatM L)[j]? = some u → ∃ ba oa, a = some ⟨ba, oa, none⟩ ∧ w.cell? ⟨ba, oa + j, none⟩ = some u := by
  cases l with
  | nil => exact ⟨[], rfl, by simp, fun j u h => by simp [flatM] at h⟩
  | cons t l =>
    obtain ⟨ba, oa, ds, rfl, -⟩ := h 0 t rfl
    obtain ⟨L, h1, h2, h3⟩ := rowsM_from (w := w) (ba := ba) (t :: l) oa (fun j t hj => by
      obtain ⟨ba', oa', ds, e, hc, hv⟩ := h j t hj
      have e2 := Option.some.inj e
      injection e2 with e3 e4
      subst e3 e4
      exact ⟨ds, hc, hv⟩)
    exact ⟨L, h1, h2, fun j u hu => ⟨ba, oa, rfl, h3 j u hu⟩⟩
/-- four cells written behind a first one -/
theorem set_five {A B : List Value} {s d0 d1 d2 d3 c0 c1 c2 c3 : Value} {n : Nat} (hn : A.length = n) :
    ((((A ++ s :: d0 :: d1 :: d2 :: d3 :: B).set (n + 1) c0).set (n + 2) c1).set (n + 3) c2).set (n + 4) c3 = A ++ s :: c0 :: c1 :: c2 :: c3 :: B := by
  subst hn
  simp [List.set_append_right]
theorem smv_own {B : Nat} {W : World} {v : Value} {N : List ((List UInt8 × J) × List Value)} {T : TypeId} (ho : W.ownsRow B T 5 v N.length (flatM N)) (hN : ∀ x ∈ N, VA B W x.1.2 x.2) : ∀ W', Agree B W W' → SM W' v (N.map fun x => x.1) := by
  intro W' hA
  have h4 : ∀ x ∈ N, x.2.length = 4 := fun x hx => (hN x hx).vj.len
  have ho' := ho
  rcases ho.2 with ⟨rfl, h0⟩ | ⟨g, cap, cur, rfl, hg, _⟩
  · refine ⟨none, 0, by rw [List.length_map, h0], fun j t hj => ?_⟩
    have := (List.getElem?_eq_some_iff.1 hj).1
    rw [List.length_map] at this
    omega
  · refine ⟨some ⟨g, 0, none⟩, cap, by rw [List.length_map], fun j t hj => ?_⟩
    rw [List.getElem?_map] at hj
    cases e : N[j]? with
    | none => rw [e] at hj; cases hj
    | some x =>
      rw [e] at hj
      cases hj
      have hjl := (List.getElem?_eq_some_iff.1 e).1
      have hx4 := h4 x (List.mem_of_getElem? e)
      have hlt := (ho'.lt g rfl).2
      refine ⟨g, 0, x.2, rfl, ⟨by rw [List.length_cons, hx4], fun i u hu => ?_⟩, hN x (List.mem_of_getElem? e) W' hA⟩
      have hi : i < 5 := by
        have := (List.getElem?_eq_some_iff.1 hu).1
        rw [List.length_cons] at this
        omega
      rw [World.cell?_of_block (w := W) (a := ⟨g, 0 + j * 5 + i, none⟩) (hA g hg hlt), Nat.zero_add, ho'.cellAt (j * 5 + i) (by omega), flatM_at h4 (t := x.1) (cs := x.2) e i hi]
      exact hu
set_option maxRecDepth 20000 in
set_option maxHeartbeats 8000000 in
theorem copiedMembers_of (l : List (List UInt8 × J)) (ih : ∀ t ∈ l, CopAt t.2) (hl : l.length ≤ 100000) (a : Option Addr) (ca : Nat) (w : World) (hL : MemAt w a l) :
    Calls Tryz.prog 49 #[.slice a l.length ca] w fun e w' => ∃ v', e = .returned v' ∧ (∀ W', Agree w.heap.size w' W' → SM W' v' l) ∧ Below w.heap.size w w' := by
  obtain ⟨L, rfl, hLv, hLr⟩ := rowsM_of hL
  rw [List.length_map] at hl ⊢
  have h4 : ∀ x ∈ L, x.2.length = 4 := fun x hx => (hLv x hx).len
  have HCL := Hid.mk' (cloneM_any a L.length ca (flatM L) w (flatM_len h4) hLr (flatM_one hLv) hl)
  have HIH : Hid (∀ x ∈ L, CopAt x.1.2) := fun x hx => ih x.1 (List.mem_map_of_mem (f := fun x : (List UInt8 × J) × List Value => x.1) hx)
  have HLV := Hid.mk' hLv
  have HT : Hid (∀ W W', Below w.heap.size w W → Below W.heap.size W W' → Below w.heap.size w W') := below_tr
  obtain ⟨n, hn⟩ : ∃ n, L.length = n := ⟨_, rfl⟩
  have HN := Hid.mk' hn
  rw [hn] at HCL hl ⊢
  clear hL hLr hLv h4 ih hn
  go_enter Tryz.func49, Tryz.ntmps49
  go_wp2_with fail
  refine HCL.out.mono ?_
  rintro e w1 ⟨v1, rfl, hown, hb1⟩
  obtain ⟨a1, c1, rfl⟩ := own_form hown
  have HO1 : Hid (w1.ownsRow w.heap.size 43 5 (.slice a1 n c1) n (flatM ([] ++ L.drop 0))) := hown
  have HG : Hid (0 < n → ∃ g, a1 = some ⟨g, 0, none⟩ ∧ w.heap.size ≤ g ∧ g < w1.heap.size) := fun h => by
    obtain ⟨g, cap, e, h1, h2⟩ := hown.form h
    injection e with e1
    exact ⟨g, e1, h1, h2⟩
  have hs1 := hb1.size
  clear HCL hown
  go_wp2
  go_loopw [10] (fun x10 wr => ∃ (i : Nat) (M : List ((List UInt8 × J) × List Value)), x10 = .int .i64 i ∧ i ≤ n ∧ w1.heap.size ≤ wr.heap.size ∧ Hid (M.length = i ∧ M.map (fun x => x.1) = (L.take i).map fun x => x.1) ∧ Hid (∀ x ∈ M, VA w1.heap.size wr x.1.2 x.2) ∧ Hid (wr.ownsRow w.heap.size 43 5 (.slice a1 n c1) n (flatM (M ++ L.drop i))) ∧ Below w.heap.size w wr) (fun x10 _ => n - (intOf x10).toNat)
  case atStart => exact ⟨0, [], rfl, Nat.zero_le _, Nat.le_refl _, ⟨rfl, rfl⟩, Hid.mk' (by simp), HO1, hb1⟩
  case round =>
    clear HO1 hb1
    obtain ⟨i, M, rfl, hi, hsr, HM, HV, HO, hbr⟩ := hrel
    by_cases hlt : i < n
    · obtain ⟨g, rfl, hgB, hg1⟩ := HG.out (by omega)
      obtain ⟨x, hx⟩ : ∃ x, L[i]? = some x := get_lt (by rw [HN.out]; exact hlt)
      have hxm := List.mem_of_getElem? hx
      obtain ⟨⟨nm, t⟩, cs⟩ := x
      have hdr : L.drop i = ((nm, t), cs) :: L.drop (i + 1) := drop_get hx
      have hvt : VJ w t cs := HLV.out _ hxm
      obtain ⟨aa, cca, bb, ccb, rfl⟩ := hvt.cells
      have h4m : ∀ y ∈ M, y.2.length = 4 := fun y hy => (HV.out y hy).vj.len
      have hfl : (flatM M).length = i * 5 := by rw [flatM_len h4m, HM.out.1]
      have hO := HO.out
      rw [hdr] at hO
      have hflat : ∀ c0 c1 c2 c3, flatM (M ++ ((nm, t), [c0, c1, c2, c3]) :: L.drop (i + 1)) = flatM M ++ .string (strL nm) :: c0 :: c1 :: c2 :: c3 :: flatM (L.drop (i + 1)) := fun c0 c1 c2 c3 => by rw [flatM_append]; simp [flatM]
      rw [hflat] at hO
      have hcell : ∀ W : World, W.ownsRow w.heap.size 43 5 (.slice (some ⟨g, 0, none⟩) n c1) n (flatM M ++ .string (strL nm) :: .int .i64 t.k :: .string (strL t.s) :: .slice aa t.l.length cca :: .slice bb t.m.length ccb :: flatM (L.drop (i + 1))) → (W.cell? ⟨g, i * 5, none⟩ = some (.string (strL nm)) ∧ W.cell? ⟨g, i * 5 + 1, none⟩ = some (.int .i64 t.k) ∧ W.cell? ⟨g, i * 5 + 2, none⟩ = some (.string (strL t.s)) ∧ W.cell? ⟨g, i * 5 + 3, none⟩ = some (.slice aa t.l.length cca) ∧ W.cell? ⟨g, i * 5 + 4, none⟩ = some (.slice bb t.m.length ccb)) ∧ W.frozen? ⟨g, i * 5 + 1, none⟩ = false ∧ W.frozen? ⟨g, i * 5 + 2, none⟩ = false ∧ W.frozen? ⟨g, i * 5 + 3, none⟩ = false ∧ W.frozen? ⟨g, i * 5 + 4, none⟩ = false := fun W h => by
        have at_ : ∀ q, q < 5 → W.cell? ⟨g, i * 5 + q, none⟩ = [Value.string (strL nm), .int .i64 t.k, .string (strL t.s), .slice aa t.l.length cca, .slice bb t.m.length ccb][q]? := fun q hq => by
          rw [h.cellAt (i * 5 + q) (by omega), List.getElem?_append_right (by omega), hfl, Nat.add_sub_cancel_left]
          match q, hq with
          | 0, _ => rfl
          | 1, _ => rfl
          | 2, _ => rfl
          | 3, _ => rfl
          | 4, _ => rfl
        exact ⟨⟨at_ 0 (by omega), at_ 1 (by omega), at_ 2 (by omega), at_ 3 (by omega), at_ 4 (by omega)⟩, h.frozenAt _, h.frozenAt _, h.frozenAt _, h.frozenAt _⟩
      obtain ⟨⟨g0, g1, g2, g3, g4⟩, -⟩ := hcell wr hO
      obtain ⟨W2, hW2, hsz2, hb2, p0, p1, p2, p3, p4⟩ := mem_box wr (.string (strL nm)) (.int .i64 t.k) (.string (strL t.s)) (.slice aa t.l.length cca) (.slice bb t.m.length ccb)
      have hbw2 := HT.out _ _ hbr hb2
      have HC := Hid.mk' (HIH.out _ hxm _ W2 (hvt.below hbw2))
      have HO2 := Hid.mk' (owns_below hO hb2)
      have HV2 : Hid (∀ x ∈ M, VA w1.heap.size W2 x.1.2 x.2) := fun x hx => (HV.out x hx).keep hb2.size (Agree.below hb2)
      have HCELL := Hid.mk' hcell
      have HFL := Hid.mk' hfl
      have HFT := Hid.mk' hflat
      have HTK : Hid ((L.take (i + 1)).map (fun x => x.1) = (L.take i).map (fun x => x.1) ++ [(nm, t)]) := by
        show _ = _
        rw [List.take_add_one, hx]; simp
      clear HV HO hO hcell hfl hflat h4m hx hxm hdr hvt HIH HLV hbr
      generalize strL t.s = S at *
      generalize strL nm = X at *
      generalize t.k = tk at *
      generalize t.l.length = tl at *
      generalize t.m.length = tm at *
      go_wp2_with fail
      refine HC.out.mono ?_
      rintro e w3 ⟨cs', rfl, hva, hb3⟩
      obtain ⟨aa', cca', bb', ccb', rfl⟩ := hva.vj.cells
      have hO3 := owns_below HO2.out hb3
      obtain ⟨⟨hh, h0, h1, h2, h3⟩, f0, f1, f2, f3⟩ := HCELL.out w3 hO3
      have hs0 := (hO3.stored (i * 5 + 1) (.int .i64 t.k)).1
      have hs1 := (hs0.stored (i * 5 + 2) (.string (strL t.s))).1
      have hs2 := (hs1.stored (i * 5 + 3) (.slice aa' t.l.length cca')).1
      have hs3 := (hs2.stored (i * 5 + 4) (.slice bb' t.m.length ccb')).1
      rw [set_five HFL.out, ← HFT.out] at hs3
      have hb4 : Below w.heap.size w ((((w3.setCell ⟨g, i * 5 + 1, none⟩ (.int .i64 t.k)).setCell ⟨g, i * 5 + 2, none⟩ (.string (strL t.s))).setCell ⟨g, i * 5 + 3, none⟩ (.slice aa' t.l.length cca')).setCell ⟨g, i * 5 + 4, none⟩ (.slice bb' t.m.length ccb')) :=
        ((((HT.out _ _ hbw2 hb3).setCell (p := ⟨g, i * 5 + 1, none⟩) hgB _).setCell (p := ⟨g, i * 5 + 2, none⟩) hgB _).setCell (p := ⟨g, i * 5 + 3, none⟩) hgB _).setCell (p := ⟨g, i * 5 + 4, none⟩) hgB _
      have hag : Agree w1.heap.size w3 ((((w3.setCell ⟨g, i * 5 + 1, none⟩ (.int .i64 t.k)).setCell ⟨g, i * 5 + 2, none⟩ (.string (strL t.s))).setCell ⟨g, i * 5 + 3, none⟩ (.slice aa' t.l.length cca')).setCell ⟨g, i * 5 + 4, none⟩ (.slice bb' t.m.length ccb')) :=
        (((Agree.store w3 g (i * 5 + 1) _ hg1).trans (by simp) (Agree.store _ g (i * 5 + 2) _ hg1)).trans (by simp) (Agree.store _ g (i * 5 + 3) _ hg1)).trans (by simp) (Agree.store _ g (i * 5 + 4) _ hg1)
      have hszw : w3.heap.size ≤ ((((w3.setCell ⟨g, i * 5 + 1, none⟩ (.int .i64 t.k)).setCell ⟨g, i * 5 + 2, none⟩ (.string (strL t.s))).setCell ⟨g, i * 5 + 3, none⟩ (.slice aa' t.l.length cca')).setCell ⟨g, i * 5 + 4, none⟩ (.slice bb' t.m.length ccb')).heap.size := by simp
      have HVN : Hid (∀ x ∈ M ++ [((nm, t), [Value.int .i64 t.k, .string (strL t.s), .slice aa' t.l.length cca', .slice bb' t.m.length ccb'])], VA w1.heap.size ((((w3.setCell ⟨g, i * 5 + 1, none⟩ (.int .i64 t.k)).setCell ⟨g, i * 5 + 2, none⟩ (.string (strL t.s))).setCell ⟨g, i * 5 + 3, none⟩ (.slice aa' t.l.length cca')).setCell ⟨g, i * 5 + 4, none⟩ (.slice bb' t.m.length ccb')) x.1.2 x.2) := fun x hx => by
        rcases List.mem_append.1 hx with h | h
        · exact ((HV2.out x h).keep hb3.size (Agree.below hb3)).keep hszw hag
        · obtain rfl := List.mem_singleton.1 h
          exact (hva.base (by omega)).keep hszw hag
      have hsN : w1.heap.size ≤ ((((w3.setCell ⟨g, i * 5 + 1, none⟩ (.int .i64 t.k)).setCell ⟨g, i * 5 + 2, none⟩ (.string (strL t.s))).setCell ⟨g, i * 5 + 3, none⟩ (.slice aa' t.l.length cca')).setCell ⟨g, i * 5 + 4, none⟩ (.slice bb' t.m.length ccb')).heap.size := by have := hb3.size; omega
      have HON : Hid (((((w3.setCell ⟨g, i * 5 + 1, none⟩ (.int .i64 t.k)).setCell ⟨g, i * 5 + 2, none⟩ (.string (strL t.s))).setCell ⟨g, i * 5 + 3, none⟩ (.slice aa' t.l.length cca')).setCell ⟨g, i * 5 + 4, none⟩ (.slice bb' t.m.length ccb')).ownsRow w.heap.size 43 5 (.slice (some ⟨g, 0, none⟩) n c1) n (flatM ((M ++ [((nm, t), [Value.int .i64 t.k, .string (strL t.s), .slice aa' t.l.length cca', .slice bb' t.m.length ccb'])]) ++ L.drop (i + 1)))) := by
        rw [List.append_assoc]
        exact hs3
      have HMN : Hid ((M ++ [((nm, t), [Value.int .i64 t.k, .string (strL t.s), .slice aa' t.l.length cca', .slice bb' t.m.length ccb'])]).length = i + 1 ∧ (M ++ [((nm, t), [Value.int .i64 t.k, .string (strL t.s), .slice aa' t.l.length cca', .slice bb' t.m.length ccb'])]).map (fun x => x.1) = (L.take (i + 1)).map fun x => x.1) := by
        refine ⟨by rw [List.length_append, HM.out.1]; rfl, ?_⟩
        rw [HTK.out, List.map_append, HM.out.2]; rfl
      generalize M ++ [((nm, t), [Value.int .i64 t.k, .string (strL t.s), .slice aa' t.l.length cca', .slice bb' t.m.length ccb'])] = MN at *
      clear hva hO3 hs0 hs1 hs2 hs3 hag hszw HC HO2 HV2 HCELL HFL HFT HTK HM hb3 hbw2 g0 g1 g2 g3 g4
      generalize strL t.s = S at *
      generalize t.k = tk at *
      generalize t.l.length = tl at *
      generalize t.m.length = tm at *
      go_wp2
      go_roundw
      case rel => exact ⟨i + 1, MN, by go_num, by omega, hsN, HMN, HVN, HON, hb4⟩
      case measure => simp [intOf]; omega
    · obtain rfl : i = n := by omega
      have HOF : Hid (wr.ownsRow w.heap.size 43 5 (.slice a1 i c1) M.length (flatM M)) := by
        have h := HO.out
        rw [List.drop_eq_nil_of_le (by rw [HN.out]; omega), List.append_nil] at h
        show wr.ownsRow _ _ _ _ _ _
        rw [HM.out.1]; exact h
      have HMF : Hid (M.map (fun x => x.1) = L.map fun x => x.1) := by
        have h := HM.out.2
        rwa [List.take_of_length_le (by rw [HN.out]; omega)] at h
      clear HO HM HIH
      go_wp2
      go_ret
      refine ⟨_, rfl, ?_, hbr⟩
      have h := smv_own HOF.out (fun x hx => (HV.out x hx).base hs1)
      rw [HMF.out] at h
      exact h
end Go.Proofs.YtjjoedkigjekcaaGreatDoor

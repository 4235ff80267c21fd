/-
  What is proved here: what the reference's Same answers at any two values.
-/
import Derived.Test.YtjjoedkigjekcaaGreatDoorJ6
import Derived.Lib.SlicesS
import Derived.Deep.RegionHeld3
import Derived.Deep.CutRange
namespace Go.Proofs.YtjjoedkigjekcaaGreatDoor
open Go.RowKit

theorem J.eta (t : J) : J.mk t.k t.s t.l t.m = t := by cases t; rfl
theorem VJ.parts {W : World} {t : J} {cs : List Value} (h : VJ W t cs) : ∃ (a : Option Addr) (ca : Nat) (b : Option Addr) (cb : Nat), cs = [.int .i64 t.k, .string (strL t.s), .slice a t.l.length ca, .slice b t.m.length cb] ∧
    (∀ j x, t.l[j]? = some x → ∃ ba oa ds, a = some ⟨ba, oa, none⟩ ∧ CellsAt W ba (oa + j * 4) ds 4 ∧ VJ W x ds) ∧
    (∀ j x, t.m[j]? = some x → ∃ bb ob ds, b = some ⟨bb, ob, none⟩ ∧ CellsAt W bb (ob + j * 5) (.string (strL x.1) :: ds) 5 ∧ VJ W x.2 ds) := by
  cases t
  exact (VJ_mk ..).1 h
/-- two values as variables of their own -/
theorem two_box (w : World) (c0 c1 c2 c3 d0 d1 d2 d3 : Value) : ∃ W0, (w.alloc (.cells #[c0, c1, c2, c3] 25)).alloc (.cells #[d0, d1, d2, d3] 25) = W0 ∧ W0.heap.size = w.heap.size + 2 ∧ Below w.heap.size w W0 ∧ (W0.cell? ⟨w.heap.size, 0, none⟩ = some c0 ∧ W0.cell? ⟨w.heap.size, 1, none⟩ = some c1 ∧ W0.cell? ⟨w.heap.size, 2, none⟩ = some c2 ∧ W0.cell? ⟨w.heap.size, 3, none⟩ = some c3) ∧ W0.cell? ⟨w.heap.size + 1, 0, none⟩ = some d0 ∧ W0.cell? ⟨w.heap.size + 1, 1, none⟩ = some d1 ∧ W0.cell? ⟨w.heap.size + 1, 2, none⟩ = some d2 ∧ W0.cell? ⟨w.heap.size + 1, 3, none⟩ = some d3 := by
  have o : ∀ i u, (w.alloc (.cells #[c0, c1, c2, c3] 25)).cell? ⟨w.heap.size, i, none⟩ = some u → ((w.alloc (.cells #[c0, c1, c2, c3] 25)).alloc (.cells #[d0, d1, d2, d3] 25)).cell? ⟨w.heap.size, i, none⟩ = some u := fun i u h => by
    rw [World.cell?_alloc_lt _ _ ⟨w.heap.size, i, none⟩ (by simp)]; exact h
  have n : ∀ i u, #[d0, d1, d2, d3][i]? = some u → ((w.alloc (.cells #[c0, c1, c2, c3] 25)).alloc (.cells #[d0, d1, d2, d3] 25)).cell? ⟨w.heap.size + 1, i, none⟩ = some u := fun i u h => by
    have e := World.cell?_alloc_new (w.alloc (.cells #[c0, c1, c2, c3] 25)) #[d0, d1, d2, d3] 25 i
    rw [World.size_alloc] at e
    rw [e]; exact h
  refine ⟨_, rfl, by simp, ((Below.refl _ w).alloc (Nat.le_refl _) _).alloc (by simp) _, ⟨o 0 _ ?_, o 1 _ ?_, o 2 _ ?_, o 3 _ ?_⟩, n 0 _ rfl, n 1 _ rfl, n 2 _ rfl, n 3 _ rfl⟩
  all_goals rw [World.cell?_alloc_new]; rfl
/-- two texts: the same or not, as the walk asks -/
theorem text_test (s s' : List UInt8) : (s = s' ∧ ((strL s).toList == (strL s').toList) = true) ∨ (s ≠ s' ∧ ((strL s).toList == (strL s').toList) = false) := by
  have h := Lib.bytes_beq_iff (strL s) (strL s')
  rw [strL_inj] at h
  by_cases e : s = s'
  · exact .inl ⟨e, h.2 e⟩
  · refine .inr ⟨e, ?_⟩
    cases g : (strL s).toList == (strL s').toList with
    | false => rfl
    | true => exact absurd (h.1 g) e
theorem int_test (a b : Int) : (a = b ∧ (a != b) = false) ∨ (a ≠ b ∧ (a != b) = true) := by
  by_cases e : a = b
  · exact .inl ⟨e, by simp [e]⟩
  · exact .inr ⟨e, by simp [e]⟩
theorem ext_at {α : Type} {l l' : List α} (hl : l.length = l'.length) (h : ∀ (j : Nat) x y, l[j]? = some x → l'[j]? = some y → x = y) : l = l' := by
  apply List.ext_getElem?
  intro j
  rcases Nat.lt_or_ge j l.length with g | g
  · rw [List.getElem?_eq_getElem g, List.getElem?_eq_getElem (by omega)]
    exact congrArg some (h j _ _ (List.getElem?_eq_getElem g) (List.getElem?_eq_getElem (by omega)))
  · rw [List.getElem?_eq_none g, List.getElem?_eq_none (by omega)]
set_option maxRecDepth 20000 in
set_option maxHeartbeats 8000000 in
theorem same_any : ∀ t : J, ∀ (t' : J) (cs cs' : List Value) (w : World), VJ w t cs → VJ w t' cs' → weight t ≤ 4000 →
    Calls Tryz.prog 25 #[.agg cs.toArray, .agg cs'.toArray] w fun e w' => (∃ z : Bool, e = .returned (.bool z) ∧ (z = true ↔ t = t')) ∧ Below w.heap.size w w' := by
  refine J.ind ?_
  intro k s l m ihl ihm t' cs cs' w hv hv' hwt
  obtain ⟨a, ca, b, cb, rfl, hL, hM⟩ := (VJ_mk ..).1 hv
  obtain ⟨a', ca', b', cb', rfl, hL', hM'⟩ := hv'.parts
  obtain ⟨hs1, hs2, hs3, hs4, hs5⟩ := weight_parts hwt
  obtain ⟨W0, hW0, hsz, hb0, ⟨e0, e1, e2, e3⟩, q0, q1, q2, q3⟩ := two_box w (.int .i64 k) (.string (strL s)) (.slice a l.length ca) (.slice b m.length cb) (.int .i64 t'.k) (.string (strL t'.s)) (.slice a' t'.l.length ca') (.slice b' t'.m.length cb')
  obtain ⟨k', s', l', m'⟩ := t'
  simp only [J.k, J.s, J.l, J.m] at *
  have HE : Hid (∀ W, Below W0.heap.size W0 W → (W.cell? ⟨w.heap.size, 2, none⟩ = some (.slice a l.length ca) ∧ W.cell? ⟨w.heap.size, 3, none⟩ = some (.slice b m.length cb) ∧ W.cell? ⟨w.heap.size + 1, 2, none⟩ = some (.slice a' l'.length ca') ∧ W.cell? ⟨w.heap.size + 1, 3, none⟩ = some (.slice b' m'.length cb')) ∧ Below w.heap.size w W) := fun W hb =>
    ⟨⟨(hb.cell (lt_of_cell e2)).trans e2, (hb.cell (lt_of_cell e3)).trans e3, (hb.cell (lt_of_cell q2)).trans q2, (hb.cell (lt_of_cell q3)).trans q3⟩, hb0.trans (hb.mono hb0.size)⟩
  have HT : Hid (∀ W W', Below W0.heap.size W0 W → Below W.heap.size W W' → Below W0.heap.size W0 W') := below_tr
  have HLL : Hid (∀ (j : Nat) (t u : J), l[j]? = some t → l'[j]? = some u → ∃ ba oa c0 c1 c2 c3 ba' oa' d0 d1 d2 d3, (a = some ⟨ba, oa, none⟩ ∧ a' = some ⟨ba', oa', none⟩) ∧ ∀ W, Below w.heap.size w W → ((W.cell? ⟨ba, oa + j * 4, none⟩ = some c0 ∧ W.cell? ⟨ba, oa + j * 4 + 1, none⟩ = some c1 ∧ W.cell? ⟨ba, oa + j * 4 + 2, none⟩ = some c2 ∧ W.cell? ⟨ba, oa + j * 4 + 3, none⟩ = some c3) ∧ W.cell? ⟨ba', oa' + j * 4, none⟩ = some d0 ∧ W.cell? ⟨ba', oa' + j * 4 + 1, none⟩ = some d1 ∧ W.cell? ⟨ba', oa' + j * 4 + 2, none⟩ = some d2 ∧ W.cell? ⟨ba', oa' + j * 4 + 3, none⟩ = some d3) ∧ Calls Tryz.prog 25 #[.agg #[c0, c1, c2, c3], .agg #[d0, d1, d2, d3]] W fun e w' => (∃ z : Bool, e = .returned (.bool z) ∧ (z = true ↔ t = u)) ∧ Below W.heap.size W w') := fun j t u hj hj' => by
    obtain ⟨ba, oa, c0, c1, c2, c3, e, h⟩ := elem_at hL hj
    obtain ⟨ba', oa', d0, d1, d2, d3, e', h'⟩ := elem_at hL' hj'
    have hm := List.mem_of_getElem? hj
    exact ⟨ba, oa, c0, c1, c2, c3, ba', oa', d0, d1, d2, d3, ⟨e, e'⟩, fun W hb => ⟨⟨(h W hb).1, (h' W hb).1⟩, ihl t hm u _ _ W (h W hb).2 (h' W hb).2 (hs4 t hm)⟩⟩
  have HMM : Hid (∀ (j : Nat) (x y : List UInt8 × J), m[j]? = some x → m'[j]? = some y → ∃ bb ob c0 c1 c2 c3 bb' ob' d0 d1 d2 d3, (b = some ⟨bb, ob, none⟩ ∧ b' = some ⟨bb', ob', none⟩) ∧ ∀ W, Below w.heap.size w W → ((W.cell? ⟨bb, ob + j * 5, none⟩ = some (.string (strL x.1)) ∧ W.cell? ⟨bb, ob + j * 5 + 1, none⟩ = some c0 ∧ W.cell? ⟨bb, ob + j * 5 + 2, none⟩ = some c1 ∧ W.cell? ⟨bb, ob + j * 5 + 3, none⟩ = some c2 ∧ W.cell? ⟨bb, ob + j * 5 + 4, none⟩ = some c3) ∧ W.cell? ⟨bb', ob' + j * 5, none⟩ = some (.string (strL y.1)) ∧ W.cell? ⟨bb', ob' + j * 5 + 1, none⟩ = some d0 ∧ W.cell? ⟨bb', ob' + j * 5 + 2, none⟩ = some d1 ∧ W.cell? ⟨bb', ob' + j * 5 + 3, none⟩ = some d2 ∧ W.cell? ⟨bb', ob' + j * 5 + 4, none⟩ = some d3) ∧ Calls Tryz.prog 25 #[.agg #[c0, c1, c2, c3], .agg #[d0, d1, d2, d3]] W fun e w' => (∃ z : Bool, e = .returned (.bool z) ∧ (z = true ↔ x.2 = y.2)) ∧ Below W.heap.size W w') := fun j x y hj hj' => by
    obtain ⟨ba, oa, c0, c1, c2, c3, e, h⟩ := memb_at hM hj
    obtain ⟨ba', oa', d0, d1, d2, d3, e', h'⟩ := memb_at hM' hj'
    have hm := List.mem_of_getElem? hj
    have hw := hs5 x hm
    exact ⟨ba, oa, c0, c1, c2, c3, ba', oa', d0, d1, d2, d3, ⟨e, e'⟩, fun W hb => ⟨⟨(h W hb).1, (h' W hb).1⟩, ihm x hm y.2 _ _ W (h W hb).2 (h' W hb).2 (by omega)⟩⟩
  have hstart : Below W0.heap.size W0 W0 := Below.refl _ _
  have HF : Hid (∀ h : (J.mk k s l m) = J.mk k' s' l' m', k = k' ∧ s = s' ∧ l = l' ∧ m = m') := fun h => by injection h with h1 h2 h3 h4; exact ⟨h1, h2, h3, h4⟩
  have HEQ : Hid (k = k' → s = s' → l.length = l'.length → m.length = m'.length → (∀ (j : Nat) x y, j < l.length → l[j]? = some x → l'[j]? = some y → x = y) → (∀ (j : Nat) x y, j < m.length → m[j]? = some x → m'[j]? = some y → x = y) → J.mk k s l m = J.mk k' s' l' m') := fun h1 h2 h3 h4 h5 h6 => by
    rw [h1, h2, ext_at h3 (fun j x y hx hy => h5 j x y (List.getElem?_eq_some_iff.1 hx).1 hx hy), ext_at h4 (fun j x y hx hy => h6 j x y (List.getElem?_eq_some_iff.1 hx).1 hx hy)]
  obtain ⟨G, hG⟩ : ∃ G : Prop, (J.mk k s l m = J.mk k' s' l' m') = G := ⟨_, rfl⟩
  rw [hG] at HEQ ⊢
  have HF2 : Hid (G → k = k' ∧ s = s' ∧ l = l' ∧ m = m') := fun h => HF.out (by rw [hG]; exact h)
  have HTT := Hid.mk' (text_test s s')
  clear HF hG ihl ihm hL hM hL' hM' hv hv' hwt hs4 hs5
  generalize strL s = S at *
  generalize strL s' = S' at *
  go_enter Tryz.func25, Tryz.ntmps25
  go_upto_region 1 with fail
  obtain ⟨bad, hbad⟩ : ∃ bad, (!(k == k') || (!(decide (s = s')) || (!(decide (l.length = l'.length)) || !(decide (m.length = m'.length))))) = bad := ⟨_, rfl⟩
  have HB := Hid.mk' hbad
  clear hbad
  go_cut [0, 1, 36] from 7 to 35 (fun _ _ x wx => x = .bool bad ∧ W0 = wx)
  case first =>
    have HBB : Hid (∀ z : Bool, (!(k == k') || (!(decide (s = s')) || (!(decide (l.length = l'.length)) || !(decide (m.length = m'.length))))) = z → Value.bool z = .bool bad) := fun z hz => by rw [← HB.out, hz]
    clear HB HF2 HEQ HE HT HLL HMM hstart
    rcases int_test k k' with ⟨h1, h1b⟩ | ⟨h1, h1b⟩
    · rcases HTT.out with ⟨h2, h2b⟩ | ⟨h2, h2b⟩
      · by_cases h3 : l.length = l'.length
        · have h3b : ((l.length : Int) != (l'.length : Int)) = false := by simp; omega
          by_cases h4 : m.length = m'.length
          · have h4b : ((m.length : Int) != (m'.length : Int)) = false := by simp; omega
            have HZ := Hid.mk' (HBB.out false (by simp [h1, h2, h3, h4]))
            clear HTT HBB h1 h2 h3 h4
            go_wp2
            go_meet
            exact ⟨HZ.out, rfl⟩
          · have h4b : ((m.length : Int) != (m'.length : Int)) = true := by simp; omega
            have HZ := Hid.mk' (HBB.out true (by simp [h1, h2, h3, h4]))
            clear HTT HBB h1 h2 h3 h4
            go_wp2
            go_meet
            exact ⟨HZ.out, rfl⟩
        · have h3b : ((l.length : Int) != (l'.length : Int)) = true := by simp; omega
          have HZ := Hid.mk' (HBB.out true (by simp [h1, h2, h3]))
          clear HTT HBB h1 h2 h3
          go_wp2
          go_meet
          exact ⟨HZ.out, rfl⟩
      · have HZ := Hid.mk' (HBB.out true (by simp [h1, h2]))
        clear HTT HBB h1 h2
        go_wp2
        go_meet
        exact ⟨HZ.out, rfl⟩
    · have HZ := Hid.mk' (HBB.out true (by simp [h1]))
      clear HTT HBB h1
      go_wp2
      go_meet
      exact ⟨HZ.out, rfl⟩
  case rest =>
    obtain ⟨rfl, rfl⟩ := hcut
    clear HTT
    cases bad
    rotate_left
    · have hng : ¬ G := fun h => by
        obtain ⟨h1, h2, h3, h4⟩ := HF2.out h
        have := HB.out
        rw [h1, h2, h3, h4] at this
        simp at this
      have hfin := (HE.out _ hstart).2
      clear HB HF2 HEQ HE HT HLL HMM hstart
      go_wp2
      go_ret
      exact ⟨⟨false, rfl, by simp [hng]⟩, hfin⟩
    have hbb := HB.out
    simp only [Bool.or_eq_false_iff, Bool.not_eq_false', beq_iff_eq, decide_eq_true_eq] at hbb
    obtain ⟨h1, h2, h3, h4⟩ := hbb
    have HEQ2 : Hid ((∀ (j : Nat) x y, j < l.length → l[j]? = some x → l'[j]? = some y → x = y) → (∀ (j : Nat) x y, j < m.length → m[j]? = some x → m'[j]? = some y → x = y) → G) := HEQ.out h1 h2 h3 h4
    clear HB HEQ h1 h2
    go_wp2
    have HN0 : Hid (∀ (j : Nat) x y, j < 0 → l[j]? = some x → l'[j]? = some y → x = y) := fun j x y h => by omega
    go_loopw [5] (fun x5 wr => ∃ (j : Nat), x5 = .int .i64 j ∧ j ≤ l.length ∧ Hid (∀ (i : Nat) x y, i < j → l[i]? = some x → l'[i]? = some y → x = y) ∧ Below W0.heap.size W0 wr) (fun x5 _ => l.length - (intOf x5).toNat)
    case atStart => exact ⟨0, rfl, Nat.zero_le _, HN0, hstart⟩
    case round =>
      clear HN0 hstart
      obtain ⟨j, rfl, hj, HN, hbr⟩ := hrel
      obtain ⟨⟨f2, f3, f2', f3'⟩, hfin⟩ := HE.out _ hbr
      by_cases hlt : j < l.length
      · obtain ⟨t, ht⟩ := get_lt hlt
        obtain ⟨u, hu⟩ := get_lt (l := l') (j := j) (by omega)
        obtain ⟨ba, oa, c0, c1, c2, c3, ba', oa', d0, d1, d2, d3, ⟨rfl, rfl⟩, HX⟩ := HLL.out j t u ht hu
        have HXC : Hid (∀ W', Below W0.heap.size W0 W' → ((W'.cell? ⟨w.heap.size, 2, none⟩ = some (.slice (some ⟨ba, oa, none⟩) l.length ca) ∧ W'.cell? ⟨w.heap.size + 1, 2, none⟩ = some (.slice (some ⟨ba', oa', none⟩) l'.length ca')) ∧ (W'.cell? ⟨ba, oa + j * 4, none⟩ = some c0 ∧ W'.cell? ⟨ba, oa + j * 4 + 1, none⟩ = some c1 ∧ W'.cell? ⟨ba, oa + j * 4 + 2, none⟩ = some c2 ∧ W'.cell? ⟨ba, oa + j * 4 + 3, none⟩ = some c3) ∧ W'.cell? ⟨ba', oa' + j * 4, none⟩ = some d0 ∧ W'.cell? ⟨ba', oa' + j * 4 + 1, none⟩ = some d1 ∧ W'.cell? ⟨ba', oa' + j * 4 + 2, none⟩ = some d2 ∧ W'.cell? ⟨ba', oa' + j * 4 + 3, none⟩ = some d3)) := fun W hb => ⟨⟨(HE.out W hb).1.1, (HE.out W hb).1.2.2.1⟩, (HX W (HE.out W hb).2).1⟩
        have HCx : Hid (∀ W, Below W0.heap.size W0 W → Calls Tryz.prog 25 #[.agg #[c0, c1, c2, c3], .agg #[d0, d1, d2, d3]] W fun e w' => (∃ z : Bool, e = .returned (.bool z) ∧ (z = true ↔ t = u)) ∧ Below W.heap.size W w') := fun W hb => (HX W (HE.out W hb).2).2
        have HN2 : Hid (t = u → ∀ (i : Nat) x y, i < j + 1 → l[i]? = some x → l'[i]? = some y → x = y) := fun htu i x y hi hx hy => by
          rcases Nat.lt_or_ge i j with g | g
          · exact HN.out i x y g hx hy
          · obtain rfl : i = j := by omega
            obtain rfl := Option.some.inj (ht.symm.trans hx)
            obtain rfl := Option.some.inj (hu.symm.trans hy)
            exact htu
        have HNG : Hid (t ≠ u → ¬ G) := fun htu hG => by
          obtain ⟨-, -, h, -⟩ := HF2.out hG
          rw [h] at ht
          exact htu (Option.some.inj (ht.symm.trans hu))
        have hbrd := hbr.drew
        have hlt' : j < l'.length := by omega
        clear HX HLL HMM HN ht hu HEQ2 HF2
        go_wp2
        go_region_held3 (fun W' => ((W'.cell? ⟨w.heap.size, 2, none⟩ = some (.slice (some ⟨ba, oa, none⟩) l.length ca) ∧ W'.cell? ⟨w.heap.size + 1, 2, none⟩ = some (.slice (some ⟨ba', oa', none⟩) l'.length ca')) ∧ (W'.cell? ⟨ba, oa + j * 4, none⟩ = some c0 ∧ W'.cell? ⟨ba, oa + j * 4 + 1, none⟩ = some c1 ∧ W'.cell? ⟨ba, oa + j * 4 + 2, none⟩ = some c2 ∧ W'.cell? ⟨ba, oa + j * 4 + 3, none⟩ = some c3) ∧ W'.cell? ⟨ba', oa' + j * 4, none⟩ = some d0 ∧ W'.cell? ⟨ba', oa' + j * 4 + 1, none⟩ = some d1 ∧ W'.cell? ⟨ba', oa' + j * 4 + 2, none⟩ = some d2 ∧ W'.cell? ⟨ba', oa' + j * 4 + 3, none⟩ = some d3)) (exact HXC.out _ (by assumption)) (first
          | (go_at_call 25; refine (HCx.out _ (by assumption)).mono ?_; rintro e wD ⟨⟨z, rfl, hz⟩, hbD⟩; have hzD := HT.out _ _ (by assumption) hbD))
        have hfinD := (HE.out _ hzD).2
        clear HCx HXC hbrd f2 f3 f2' f3' hbr hbD hfin
        cases z
        · have hng : ¬ G := HNG.out (fun e => by simpa using hz.2 e)
          clear HN2 HNG hz
          go_wp2
          go_ret
          exact ⟨⟨false, rfl, by simp [hng]⟩, hfinD⟩
        · have HN3 := Hid.mk' (HN2.out (hz.1 rfl))
          clear HN2 HNG hz
          go_wp2
          go_roundw
          case rel => exact ⟨j + 1, by go_num, by omega, HN3, hzD⟩
          case measure => simp [intOf]; omega
      · have HEQ3 : Hid ((∀ (j : Nat) x y, j < m.length → m[j]? = some x → m'[j]? = some y → x = y) → G) := HEQ2.out (fun i x y hi hx hy => HN.out i x y (by omega) hx hy)
        have HN0 : Hid (∀ (j : Nat) x y, j < 0 → m[j]? = some x → m'[j]? = some y → x = y) := fun j x y h => by omega
        have hnl : decide (j < l'.length) = false := by rw [decide_eq_false_iff_not]; omega
        clear HN HLL HEQ2
        go_wp2
        go_loopw [6] (fun x6 wr => ∃ (j : Nat), x6 = .int .i64 j ∧ j ≤ m.length ∧ Hid (∀ (i : Nat) x y, i < j → m[i]? = some x → m'[i]? = some y → x = y) ∧ Below W0.heap.size W0 wr) (fun x6 _ => m.length - (intOf x6).toNat)
        case atStart => exact ⟨0, rfl, Nat.zero_le _, HN0, hbr⟩
        case round =>
          clear HN0 hbr hfin f2 f3 f2' f3'
          obtain ⟨j, rfl, hj, HN, hbr⟩ := hrel
          obtain ⟨⟨f2, f3, f2', f3'⟩, hfin⟩ := HE.out _ hbr
          by_cases hlt : j < m.length
          · obtain ⟨t, ht⟩ := get_lt hlt
            obtain ⟨u, hu⟩ := get_lt (l := m') (j := j) (by omega)
            obtain ⟨bb, ob, c0, c1, c2, c3, bb', ob', d0, d1, d2, d3, ⟨rfl, rfl⟩, HX⟩ := HMM.out j t u ht hu
            have HN2 : Hid (t = u → ∀ (i : Nat) x y, i < j + 1 → m[i]? = some x → m'[i]? = some y → x = y) := fun htu i x y hi hx hy => by
              rcases Nat.lt_or_ge i j with g | g
              · exact HN.out i x y g hx hy
              · obtain rfl : i = j := by omega
                obtain rfl := Option.some.inj (ht.symm.trans hx)
                obtain rfl := Option.some.inj (hu.symm.trans hy)
                exact htu
            have HNG : Hid (t ≠ u → ¬ G) := fun htu hG => by
              obtain ⟨-, -, -, h⟩ := HF2.out hG
              rw [h] at ht
              exact htu (Option.some.inj (ht.symm.trans hu))
            have hbrd := hbr.drew
            have hlt' : j < m'.length := by omega
            have HTU : Hid (t.1 = u.1 → t.2 = u.2 → t = u) := fun h1 h2 => Prod.ext h1 h2
            have hcells := (HX _ hfin).1
            rcases text_test t.1 u.1 with ⟨hn, hnb⟩ | ⟨hn, hnb⟩
            · generalize hXe : strL t.1 = X at *
              generalize hYe : strL u.1 = Y at *
              have HXC : Hid (∀ W', Below W0.heap.size W0 W' → ((W'.cell? ⟨w.heap.size, 3, none⟩ = some (.slice (some ⟨bb, ob, none⟩) m.length cb) ∧ W'.cell? ⟨w.heap.size + 1, 3, none⟩ = some (.slice (some ⟨bb', ob', none⟩) m'.length cb')) ∧ (W'.cell? ⟨bb, ob + j * 5, none⟩ = some (.string X) ∧ W'.cell? ⟨bb, ob + j * 5 + 1, none⟩ = some c0 ∧ W'.cell? ⟨bb, ob + j * 5 + 2, none⟩ = some c1 ∧ W'.cell? ⟨bb, ob + j * 5 + 3, none⟩ = some c2 ∧ W'.cell? ⟨bb, ob + j * 5 + 4, none⟩ = some c3) ∧ W'.cell? ⟨bb', ob' + j * 5, none⟩ = some (.string Y) ∧ W'.cell? ⟨bb', ob' + j * 5 + 1, none⟩ = some d0 ∧ W'.cell? ⟨bb', ob' + j * 5 + 2, none⟩ = some d1 ∧ W'.cell? ⟨bb', ob' + j * 5 + 3, none⟩ = some d2 ∧ W'.cell? ⟨bb', ob' + j * 5 + 4, none⟩ = some d3)) := fun W hb => ⟨⟨(HE.out W hb).1.2.1, (HE.out W hb).1.2.2.2⟩, (HX W (HE.out W hb).2).1⟩
              have HCx : Hid (∀ W, Below W0.heap.size W0 W → Calls Tryz.prog 25 #[.agg #[c0, c1, c2, c3], .agg #[d0, d1, d2, d3]] W fun e w' => (∃ z : Bool, e = .returned (.bool z) ∧ (z = true ↔ t.2 = u.2)) ∧ Below W.heap.size W w') := fun W hb => (HX W (HE.out W hb).2).2
              have HTU2 := Hid.mk' (HTU.out hn)
              clear HX HMM HN ht hu HEQ3 HF2 hcells hn hXe hYe
              go_wp2
              go_region_held3 (fun W' => ((W'.cell? ⟨w.heap.size, 3, none⟩ = some (.slice (some ⟨bb, ob, none⟩) m.length cb) ∧ W'.cell? ⟨w.heap.size + 1, 3, none⟩ = some (.slice (some ⟨bb', ob', none⟩) m'.length cb')) ∧ (W'.cell? ⟨bb, ob + j * 5, none⟩ = some (.string X) ∧ W'.cell? ⟨bb, ob + j * 5 + 1, none⟩ = some c0 ∧ W'.cell? ⟨bb, ob + j * 5 + 2, none⟩ = some c1 ∧ W'.cell? ⟨bb, ob + j * 5 + 3, none⟩ = some c2 ∧ W'.cell? ⟨bb, ob + j * 5 + 4, none⟩ = some c3) ∧ W'.cell? ⟨bb', ob' + j * 5, none⟩ = some (.string Y) ∧ W'.cell? ⟨bb', ob' + j * 5 + 1, none⟩ = some d0 ∧ W'.cell? ⟨bb', ob' + j * 5 + 2, none⟩ = some d1 ∧ W'.cell? ⟨bb', ob' + j * 5 + 3, none⟩ = some d2 ∧ W'.cell? ⟨bb', ob' + j * 5 + 4, none⟩ = some d3)) (exact HXC.out _ (by assumption)) (first
                | (go_at_call 25; refine (HCx.out _ (by assumption)).mono ?_; rintro e wD ⟨⟨z, rfl, hz⟩, hbD⟩; have hzD := HT.out _ _ (by assumption) hbD))
              have hfinD := (HE.out _ hzD).2
              clear HCx HXC hbrd f2 f3 f2' f3' hbr hbD hfin
              cases z
              · have hng : ¬ G := HNG.out (fun e => by rw [e] at hz; simp at hz)
                clear HN2 HNG hz
                go_wp2
                go_ret
                exact ⟨⟨false, rfl, by simp [hng]⟩, hfinD⟩
              · have HN3 := Hid.mk' (HN2.out (HTU2.out (hz.1 rfl)))
                clear HN2 HNG hz
                go_wp2
                go_roundw
                case rel =>
                  have hrl : ∃ (j' : Nat), Value.int .i64 ((j : Int) + 1) = .int .i64 j' ∧ j' ≤ m.length ∧ Hid (∀ (i : Nat) x y, i < j' → m[i]? = some x → m'[i]? = some y → x = y) ∧ Below W0.heap.size W0 wD := ⟨j + 1, by go_num, by omega, HN3, hzD⟩
                  first | exact hrl | ((repeat apply Exists.intro); exact ⟨hrl, rfl⟩)
                case measure => simp [intOf]; omega
            · have hng : ¬ G := HNG.out (fun e => hn (by rw [e]))
              obtain ⟨⟨g0, g1, g2, g3, g4⟩, g0', g1', g2', g3', g4'⟩ := hcells
              generalize strL t.1 = X at *
              generalize strL u.1 = Y at *
              have hfind := hfin.drew
              clear HX HMM HN ht hu HEQ3 HF2 hn HN2 HNG HTU
              go_wp2
              go_region
              go_wp2
              go_ret
              exact ⟨⟨false, rfl, by simp [hng]⟩, hfind⟩
          · have hG : G := HEQ3.out (fun i x y hi hx hy => HN.out i x y (by omega) hx hy)
            clear HN HEQ3 HMM HF2
            go_wp2
            go_ret
            exact ⟨⟨true, rfl, by simp [hG]⟩, hfin⟩
end Go.Proofs.YtjjoedkigjekcaaGreatDoor

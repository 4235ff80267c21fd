/-
  What is proved here: what the reference's Equal answers at any two right values.
-/
import Derived.Test.YtjjoedkigjekcaaGreatDoorJC
import Derived.Test.YtjjoedkigjekcaaGreatDoorJD
import Derived.Test.YtjjoedkigjekcaaGreatDoorJ7
namespace Go.Proofs.YtjjoedkigjekcaaGreatDoor
open Go.RowKit

set_option maxRecDepth 20000 in
set_option maxHeartbeats 8000000 in
theorem equal_any : ∀ t : J, ∀ (t' : J) (cs cs' : List Value) (w : World), VJ w t cs → VJ w t' cs' → weight t ≤ 4000 → weight t' ≤ 4000 → Good gd t' →
    Calls Tryz.prog 22 #[.agg cs.toArray, .agg cs'.toArray] w fun e w' => (∃ z : Bool, e = .returned (.bool z) ∧ (z = true ↔ Eqv t t')) ∧ Below w.heap.size w w' := by
  refine J.ind ?_
  intro k s l m ihl ihm t' cs cs' w hv hv' hwt hwt' hgd
  obtain ⟨a, ca, b, cb, rfl, hL, hM⟩ := (VJ_mk ..).1 hv
  obtain ⟨a', ca', b', cb', rfl, hL', hM'⟩ := hv'.parts
  obtain ⟨hs1, hs2, hs3, hs4, hs5⟩ := weight_parts hwt
  obtain ⟨W0, hW0, hsz, hb0, ⟨e0, e1, e2, e3⟩, q0, q1, q2, q3⟩ := two_box w (.int .i64 k) (.string (strL s)) (.slice a l.length ca) (.slice b m.length cb) (.int .i64 t'.k) (.string (strL t'.s)) (.slice a' t'.l.length ca') (.slice b' t'.m.length cb')
  obtain ⟨k', s', l', m'⟩ := t'
  obtain ⟨ht1, ht2, ht3, ht4, ht5⟩ := weight_parts hwt'
  obtain ⟨⟨-, -, -, hnd⟩, hgL, hgM⟩ := (Good_mk ..).1 hgd
  have HND := Hid.mk' hnd
  simp only [J.k, J.s, J.l, J.m] at *
  have HE : Hid (∀ W, Below W0.heap.size W0 W → (W.cell? ⟨w.heap.size, 2, none⟩ = some (.slice a l.length ca) ∧ W.cell? ⟨w.heap.size, 3, none⟩ = some (.slice b m.length cb) ∧ W.cell? ⟨w.heap.size + 1, 2, none⟩ = some (.slice a' l'.length ca') ∧ W.cell? ⟨w.heap.size + 1, 3, none⟩ = some (.slice b' m'.length cb')) ∧ Below w.heap.size w W) := fun W hb =>
    ⟨⟨(hb.cell (lt_of_cell e2)).trans e2, (hb.cell (lt_of_cell e3)).trans e3, (hb.cell (lt_of_cell q2)).trans q2, (hb.cell (lt_of_cell q3)).trans q3⟩, hb0.trans (hb.mono hb0.size)⟩
  have HT : Hid (∀ W W', Below W0.heap.size W0 W → Below W.heap.size W W' → Below W0.heap.size W0 W') := below_tr
  have HLL : Hid (∀ (j : Nat) (t u : J), l[j]? = some t → l'[j]? = some u → ∃ ba oa c0 c1 c2 c3 ba' oa' d0 d1 d2 d3, (a = some ⟨ba, oa, none⟩ ∧ a' = some ⟨ba', oa', none⟩) ∧ ∀ W, Below w.heap.size w W → ((W.cell? ⟨ba, oa + j * 4, none⟩ = some c0 ∧ W.cell? ⟨ba, oa + j * 4 + 1, none⟩ = some c1 ∧ W.cell? ⟨ba, oa + j * 4 + 2, none⟩ = some c2 ∧ W.cell? ⟨ba, oa + j * 4 + 3, none⟩ = some c3) ∧ W.cell? ⟨ba', oa' + j * 4, none⟩ = some d0 ∧ W.cell? ⟨ba', oa' + j * 4 + 1, none⟩ = some d1 ∧ W.cell? ⟨ba', oa' + j * 4 + 2, none⟩ = some d2 ∧ W.cell? ⟨ba', oa' + j * 4 + 3, none⟩ = some d3) ∧ Calls Tryz.prog 22 #[.agg #[c0, c1, c2, c3], .agg #[d0, d1, d2, d3]] W fun e w' => (∃ z : Bool, e = .returned (.bool z) ∧ (z = true ↔ Eqv t u)) ∧ Below W.heap.size W w') := fun j t u hj hj' => by
    obtain ⟨ba, oa, c0, c1, c2, c3, e, h⟩ := elem_at hL hj
    obtain ⟨ba', oa', d0, d1, d2, d3, e', h'⟩ := elem_at hL' hj'
    have hm := List.mem_of_getElem? hj
    exact ⟨ba, oa, c0, c1, c2, c3, ba', oa', d0, d1, d2, d3, ⟨e, e'⟩, fun W hb => ⟨⟨(h W hb).1, (h' W hb).1⟩, ihl t hm u _ _ W (h W hb).2 (h' W hb).2 (hs4 t hm) (ht4 u (List.mem_of_getElem? hj')) (hgL u (List.mem_of_getElem? hj'))⟩⟩
  have HMM : Hid (∀ (i j : Nat) (x y : List UInt8 × J), m[i]? = some x → m'[j]? = some y → ∃ bb ob c0 c1 c2 c3 bb' ob' d0 d1 d2 d3, (b = some ⟨bb, ob, none⟩ ∧ b' = some ⟨bb', ob', none⟩) ∧ ∀ W, Below w.heap.size w W → ((W.cell? ⟨bb, ob + i * 5, none⟩ = some (.string (strL x.1)) ∧ W.cell? ⟨bb, ob + i * 5 + 1, none⟩ = some c0 ∧ W.cell? ⟨bb, ob + i * 5 + 2, none⟩ = some c1 ∧ W.cell? ⟨bb, ob + i * 5 + 3, none⟩ = some c2 ∧ W.cell? ⟨bb, ob + i * 5 + 4, none⟩ = some c3) ∧ W.cell? ⟨bb', ob' + j * 5, none⟩ = some (.string (strL y.1)) ∧ W.cell? ⟨bb', ob' + j * 5 + 1, none⟩ = some d0 ∧ W.cell? ⟨bb', ob' + j * 5 + 2, none⟩ = some d1 ∧ W.cell? ⟨bb', ob' + j * 5 + 3, none⟩ = some d2 ∧ W.cell? ⟨bb', ob' + j * 5 + 4, none⟩ = some d3) ∧ Calls Tryz.prog 22 #[.agg #[c0, c1, c2, c3], .agg #[d0, d1, d2, d3]] W fun e w' => (∃ z : Bool, e = .returned (.bool z) ∧ (z = true ↔ Eqv x.2 y.2)) ∧ Below W.heap.size W w') := fun i j x y hj hj' => by
    obtain ⟨ba, oa, c0, c1, c2, c3, e, h⟩ := memb_at hM hj
    obtain ⟨ba', oa', d0, d1, d2, d3, e', h'⟩ := memb_at hM' hj'
    have hm := List.mem_of_getElem? hj
    have hm' := List.mem_of_getElem? hj'
    have hw := hs5 x hm
    have hw' := ht5 y hm'
    exact ⟨ba, oa, c0, c1, c2, c3, ba', oa', d0, d1, d2, d3, ⟨e, e'⟩, fun W hb => ⟨⟨(h W hb).1, (h' W hb).1⟩, ihm x hm y.2 _ _ W (h W hb).2 (h' W hb).2 (by omega) (by omega) (hgM y hm')⟩⟩
  have hstart : Below W0.heap.size W0 W0 := Below.refl _ _
  obtain ⟨G, hG⟩ : ∃ G : Prop, Eqv (J.mk k s l m) (J.mk k' s' l' m') = G := ⟨_, rfl⟩
  have hmk := Eqv_mk k s l m (J.mk k' s' l' m')
  rw [hG] at hmk ⊢
  simp only [J.k, J.s, J.l, J.m] at hmk
  have HEQ : Hid (k = k' → s = s' → l.length = l'.length → m.length = m'.length → (∀ (j : Nat) x y, j < l.length → l[j]? = some x → l'[j]? = some y → Eqv x y) → (∀ (j : Nat) x, j < m.length → m[j]? = some x → ∃ (i : Nat) (y : List UInt8 × J), m'[i]? = some y ∧ y.1 = x.1 ∧ Eqv x.2 y.2) → G) := fun h1 h2 h3 h4 h5 h6 =>
    hmk.2 ⟨h1, h2, h3, h4, fun j x y hx hy => h5 j x y (List.getElem?_eq_some_iff.1 hx).1 hx hy, fun j x hx => h6 j x (List.getElem?_eq_some_iff.1 hx).1 hx⟩
  have HF2 : Hid (G → k = k' ∧ s = s' ∧ l.length = l'.length ∧ m.length = m'.length ∧ (∀ (j : Nat) x y, l[j]? = some x → l'[j]? = some y → Eqv x y) ∧ ∀ (j : Nat) x, m[j]? = some x → ∃ (i : Nat) (y : List UInt8 × J), m'[i]? = some y ∧ y.1 = x.1 ∧ Eqv x.2 y.2) := fun h => hmk.1 h
  have HTT := Hid.mk' (text_test s s')
  clear hmk hG ihl ihm hL hM hL' hM' hv hv' hwt hwt' hs4 hs5 ht4 ht5 hgL hgM hgd hnd
  generalize strL s = S at *
  generalize strL s' = S' at *
  go_enter Tryz.func22, Tryz.ntmps22
  go_upto_region 1 with fail
  obtain ⟨bad, hbad⟩ : ∃ bad, (!(k == k') || (!(decide (s = s')) || (!(decide (l.length = l'.length)) || !(decide (m.length = m'.length))))) = bad := ⟨_, rfl⟩
  have HB := Hid.mk' hbad
  clear hbad
  go_cut [0, 1, 38] from 9 to 37 (fun _ _ x wx => x = .bool bad ∧ W0 = wx)
  case first =>
    have HBB : Hid (∀ z : Bool, (!(k == k') || (!(decide (s = s')) || (!(decide (l.length = l'.length)) || !(decide (m.length = m'.length))))) = z → Value.bool z = .bool bad) := fun z hz => by rw [← HB.out, hz]
    clear HB HF2 HEQ HE HT HLL HMM hstart
    rcases int_test k k' with ⟨h1, h1b⟩ | ⟨h1, h1b⟩
    · rcases HTT.out with ⟨h2, h2b⟩ | ⟨h2, h2b⟩
      · by_cases h3 : l.length = l'.length
        · have h3b : ((l.length : Int) != (l'.length : Int)) = false := by simp; omega
          by_cases h4 : m.length = m'.length
          · have h4b : ((m.length : Int) != (m'.length : Int)) = false := by simp; omega
            have HZ := Hid.mk' (HBB.out false (by simp [h1, h2, h3, h4]))
            clear HTT HBB h1 h2 h3 h4
            go_wp2
            go_meet
            exact ⟨HZ.out, rfl⟩
          · have h4b : ((m.length : Int) != (m'.length : Int)) = true := by simp; omega
            have HZ := Hid.mk' (HBB.out true (by simp [h1, h2, h3, h4]))
            clear HTT HBB h1 h2 h3 h4
            go_wp2
            go_meet
            exact ⟨HZ.out, rfl⟩
        · have h3b : ((l.length : Int) != (l'.length : Int)) = true := by simp; omega
          have HZ := Hid.mk' (HBB.out true (by simp [h1, h2, h3]))
          clear HTT HBB h1 h2 h3
          go_wp2
          go_meet
          exact ⟨HZ.out, rfl⟩
      · have HZ := Hid.mk' (HBB.out true (by simp [h1, h2]))
        clear HTT HBB h1 h2
        go_wp2
        go_meet
        exact ⟨HZ.out, rfl⟩
    · have HZ := Hid.mk' (HBB.out true (by simp [h1]))
      clear HTT HBB h1
      go_wp2
      go_meet
      exact ⟨HZ.out, rfl⟩
  case rest =>
    obtain ⟨rfl, rfl⟩ := hcut
    clear HTT
    cases bad
    rotate_left
    · have hng : ¬ G := fun h => by
        obtain ⟨h1, h2, h3, h4, -⟩ := HF2.out h
        have := HB.out
        rw [h1, h2, h3, h4] at this
        simp at this
      have hfin := (HE.out _ hstart).2
      clear HB HF2 HEQ HE HT HLL HMM hstart
      go_wp2
      go_ret
      exact ⟨⟨false, rfl, by simp [hng]⟩, hfin⟩
    have hbb := HB.out
    simp only [Bool.or_eq_false_iff, Bool.not_eq_false', beq_iff_eq, decide_eq_true_eq] at hbb
    obtain ⟨h1, h2, h3, h4⟩ := hbb
    have HEQ2 : Hid ((∀ (j : Nat) x y, j < l.length → l[j]? = some x → l'[j]? = some y → Eqv x y) → (∀ (j : Nat) x, j < m.length → m[j]? = some x → ∃ (i : Nat) (y : List UInt8 × J), m'[i]? = some y ∧ y.1 = x.1 ∧ Eqv x.2 y.2) → G) := HEQ.out h1 h2 h3 h4
    clear HB HEQ h1 h2
    go_wp2
    have HN0 : Hid (∀ (j : Nat) x y, j < 0 → l[j]? = some x → l'[j]? = some y → Eqv x y) := fun j x y h => by omega
    go_loopw [5] (fun x5 wr => ∃ (j : Nat), x5 = .int .i64 j ∧ j ≤ l.length ∧ Hid (∀ (i : Nat) x y, i < j → l[i]? = some x → l'[i]? = some y → Eqv x y) ∧ Below W0.heap.size W0 wr) (fun x5 _ => l.length - (intOf x5).toNat)
    case atStart => exact ⟨0, rfl, Nat.zero_le _, HN0, hstart⟩
    case round =>
      clear HN0 hstart
      obtain ⟨j, rfl, hj, HN, hbr⟩ := hrel
      obtain ⟨⟨f2, f3, f2', f3'⟩, hfin⟩ := HE.out _ hbr
      by_cases hlt : j < l.length
      · obtain ⟨t, ht⟩ := get_lt hlt
        obtain ⟨u, hu⟩ := get_lt (l := l') (j := j) (by omega)
        obtain ⟨ba, oa, c0, c1, c2, c3, ba', oa', d0, d1, d2, d3, ⟨rfl, rfl⟩, HX⟩ := HLL.out j t u ht hu
        have HXC : Hid (∀ W', Below W0.heap.size W0 W' → ((W'.cell? ⟨w.heap.size, 2, none⟩ = some (.slice (some ⟨ba, oa, none⟩) l.length ca) ∧ W'.cell? ⟨w.heap.size + 1, 2, none⟩ = some (.slice (some ⟨ba', oa', none⟩) l'.length ca')) ∧ (W'.cell? ⟨ba, oa + j * 4, none⟩ = some c0 ∧ W'.cell? ⟨ba, oa + j * 4 + 1, none⟩ = some c1 ∧ W'.cell? ⟨ba, oa + j * 4 + 2, none⟩ = some c2 ∧ W'.cell? ⟨ba, oa + j * 4 + 3, none⟩ = some c3) ∧ W'.cell? ⟨ba', oa' + j * 4, none⟩ = some d0 ∧ W'.cell? ⟨ba', oa' + j * 4 + 1, none⟩ = some d1 ∧ W'.cell? ⟨ba', oa' + j * 4 + 2, none⟩ = some d2 ∧ W'.cell? ⟨ba', oa' + j * 4 + 3, none⟩ = some d3)) := fun W hb => ⟨⟨(HE.out W hb).1.1, (HE.out W hb).1.2.2.1⟩, (HX W (HE.out W hb).2).1⟩
        have HCx : Hid (∀ W, Below W0.heap.size W0 W → Calls Tryz.prog 22 #[.agg #[c0, c1, c2, c3], .agg #[d0, d1, d2, d3]] W fun e w' => (∃ z : Bool, e = .returned (.bool z) ∧ (z = true ↔ Eqv t u)) ∧ Below W.heap.size W w') := fun W hb => (HX W (HE.out W hb).2).2
        have HN2 : Hid (Eqv t u → ∀ (i : Nat) x y, i < j + 1 → l[i]? = some x → l'[i]? = some y → Eqv x y) := fun htu i x y hi hx hy => by
          rcases Nat.lt_or_ge i j with g | g
          · exact HN.out i x y g hx hy
          · obtain rfl : i = j := by omega
            obtain rfl := Option.some.inj (ht.symm.trans hx)
            obtain rfl := Option.some.inj (hu.symm.trans hy)
            exact htu
        have HNG : Hid (¬ Eqv t u → ¬ G) := fun htu hG => htu ((HF2.out hG).2.2.2.2.1 j t u ht hu)
        have hbrd := hbr.drew
        have hlt' : j < l'.length := by omega
        clear HX HLL HMM HN ht hu HEQ2 HF2
        go_wp2
        go_region_held3 (fun W' => ((W'.cell? ⟨w.heap.size, 2, none⟩ = some (.slice (some ⟨ba, oa, none⟩) l.length ca) ∧ W'.cell? ⟨w.heap.size + 1, 2, none⟩ = some (.slice (some ⟨ba', oa', none⟩) l'.length ca')) ∧ (W'.cell? ⟨ba, oa + j * 4, none⟩ = some c0 ∧ W'.cell? ⟨ba, oa + j * 4 + 1, none⟩ = some c1 ∧ W'.cell? ⟨ba, oa + j * 4 + 2, none⟩ = some c2 ∧ W'.cell? ⟨ba, oa + j * 4 + 3, none⟩ = some c3) ∧ W'.cell? ⟨ba', oa' + j * 4, none⟩ = some d0 ∧ W'.cell? ⟨ba', oa' + j * 4 + 1, none⟩ = some d1 ∧ W'.cell? ⟨ba', oa' + j * 4 + 2, none⟩ = some d2 ∧ W'.cell? ⟨ba', oa' + j * 4 + 3, none⟩ = some d3)) (exact HXC.out _ (by assumption)) (first
          | (go_at_call 22; refine (HCx.out _ (by assumption)).mono ?_; rintro e wD ⟨⟨z, rfl, hz⟩, hbD⟩; have hzD := HT.out _ _ (by assumption) hbD))
        have hfinD := (HE.out _ hzD).2
        clear HCx HXC hbrd f2 f3 f2' f3' hbr hbD hfin
        cases z
        · have hng : ¬ G := HNG.out (fun e => by simpa using hz.2 e)
          clear HN2 HNG hz
          go_wp2
          go_ret
          exact ⟨⟨false, rfl, by simp [hng]⟩, hfinD⟩
        · have HN3 := Hid.mk' (HN2.out (hz.1 rfl))
          clear HN2 HNG hz
          go_wp2
          go_roundw
          case rel => exact ⟨j + 1, by go_num, by omega, HN3, hzD⟩
          case measure => simp [intOf]; omega
      · have HEQ3 : Hid ((∀ (j : Nat) x, j < m.length → m[j]? = some x → ∃ (i : Nat) (y : List UInt8 × J), m'[i]? = some y ∧ y.1 = x.1 ∧ Eqv x.2 y.2) → G) := HEQ2.out (fun i x y hi hx hy => HN.out i x y (by omega) hx hy)
        have HN0 : Hid (∀ (j : Nat) x, j < 0 → m[j]? = some x → ∃ (i : Nat) (y : List UInt8 × J), m'[i]? = some y ∧ y.1 = x.1 ∧ Eqv x.2 y.2) := fun j x h => by omega
        have hnl : decide (j < l'.length) = false := by rw [decide_eq_false_iff_not]; omega
        clear HN HLL HEQ2
        go_wp2
        go_loopw [6] (fun x6 wr => ∃ (i : Nat), x6 = .int .i64 i ∧ i ≤ m.length ∧ Hid (∀ (j : Nat) x, j < i → m[j]? = some x → ∃ (q : Nat) (y : List UInt8 × J), m'[q]? = some y ∧ y.1 = x.1 ∧ Eqv x.2 y.2) ∧ Below W0.heap.size W0 wr) (fun x6 _ => m.length - (intOf x6).toNat)
        case atStart => exact ⟨0, rfl, Nat.zero_le _, HN0, hbr⟩
        case round =>
          clear HN0 hbr hfin f2 f3 f2' f3'
          obtain ⟨i, rfl, hi, HN, hbr⟩ := hrel
          obtain ⟨⟨f2, f3, f2', f3'⟩, hfin⟩ := HE.out _ hbr
          by_cases hlt : i < m.length
          · obtain ⟨x, hx⟩ := get_lt hlt
            have Hx := Hid.mk' hx
            clear hx
            have HQ0 : Hid (false = true ↔ ∃ (q : Nat) (y : List UInt8 × J), q < 0 ∧ m'[q]? = some y ∧ y.1 = x.1 ∧ Eqv x.2 y.2) := Hid.mk' ⟨fun h => (by cases h), fun ⟨q, y, h, _⟩ => by omega⟩
            have hil : i < m'.length := by omega
            have hild : decide (i < m'.length) = true := decide_eq_true hil
            go_wp2
            go_loopw [7, 8] (fun x7 x8 wr => ∃ (z : Bool) (q : Nat), x7 = .bool z ∧ x8 = .int .i64 q ∧ q ≤ m'.length ∧ Hid (z = true ↔ ∃ (p : Nat) (y : List UInt8 × J), p < q ∧ m'[p]? = some y ∧ y.1 = x.1 ∧ Eqv x.2 y.2) ∧ Below W0.heap.size W0 wr) (fun _ x8 _ => m'.length - (intOf x8).toNat)
            case atStart => exact ⟨false, 0, rfl, rfl, Nat.zero_le _, HQ0, hbr⟩
            case round =>
              clear HQ0 hbr hfin f2 f3 f2' f3'
              obtain ⟨z, q, rfl, rfl, hq, HQ, hbr⟩ := hrel
              obtain ⟨⟨f2, f3, f2', f3'⟩, hfin⟩ := HE.out _ hbr
              by_cases hlt2 : q < m'.length
              · obtain ⟨y, hy⟩ := get_lt hlt2
                obtain ⟨bb, ob, c0, c1, c2, c3, bb', ob', d0, d1, d2, d3, ⟨rfl, rfl⟩, HX⟩ := HMM.out i q x y Hx.out hy
                have hcells := (HX _ hfin).1
                have Hy := Hid.mk' hy
                clear hy
                rcases text_test x.1 y.1 with ⟨hn, hnb⟩ | ⟨hn, hnb⟩
                · generalize hXe : strL x.1 = X at *
                  generalize hYe : strL y.1 = Y at *
                  have HXC : Hid (∀ W', Below W0.heap.size W0 W' → ((W'.cell? ⟨w.heap.size, 3, none⟩ = some (.slice (some ⟨bb, ob, none⟩) m.length cb) ∧ W'.cell? ⟨w.heap.size + 1, 3, none⟩ = some (.slice (some ⟨bb', ob', none⟩) m'.length cb')) ∧ (W'.cell? ⟨bb, ob + i * 5, none⟩ = some (.string X) ∧ W'.cell? ⟨bb, ob + i * 5 + 1, none⟩ = some c0 ∧ W'.cell? ⟨bb, ob + i * 5 + 2, none⟩ = some c1 ∧ W'.cell? ⟨bb, ob + i * 5 + 3, none⟩ = some c2 ∧ W'.cell? ⟨bb, ob + i * 5 + 4, none⟩ = some c3) ∧ W'.cell? ⟨bb', ob' + q * 5, none⟩ = some (.string Y) ∧ W'.cell? ⟨bb', ob' + q * 5 + 1, none⟩ = some d0 ∧ W'.cell? ⟨bb', ob' + q * 5 + 2, none⟩ = some d1 ∧ W'.cell? ⟨bb', ob' + q * 5 + 3, none⟩ = some d2 ∧ W'.cell? ⟨bb', ob' + q * 5 + 4, none⟩ = some d3)) := fun W hb => ⟨⟨(HE.out W hb).1.2.1, (HE.out W hb).1.2.2.2⟩, (HX W (HE.out W hb).2).1⟩
                  have HCx : Hid (∀ W, Below W0.heap.size W0 W → Calls Tryz.prog 22 #[.agg #[c0, c1, c2, c3], .agg #[d0, d1, d2, d3]] W fun e w' => (∃ z : Bool, e = .returned (.bool z) ∧ (z = true ↔ Eqv x.2 y.2)) ∧ Below W.heap.size W w') := fun W hb => (HX W (HE.out W hb).2).2
                  have HQ2 : Hid (∀ z' : Bool, (z' = true ↔ Eqv x.2 y.2) → (z' = true ↔ ∃ (p : Nat) (y : List UInt8 × J), p < q + 1 ∧ m'[p]? = some y ∧ y.1 = x.1 ∧ Eqv x.2 y.2)) := fun z' hz' => by
                    rw [hz']
                    refine ⟨fun h => ⟨q, y, by omega, Hy.out, hn.symm, h⟩, fun ⟨p, y2, hp, hy2, e, h⟩ => ?_⟩
                    obtain ⟨-, rfl⟩ := nodup_at HND.out hy2 Hy.out (e.trans hn)
                    exact h
                  obtain ⟨⟨g0, g1, g2, g3, g4⟩, g0', g1', g2', g3', g4'⟩ := hcells
                  have hbrd := hbr.drew
                  have hbrdd := hbrd.drew
                  clear HX HMM HN HQ Hx Hy HEQ3 HF2 hn hXe hYe
                  go_wp2
                  go_region
                  go_wp2
                  go_region_held3 (fun W' => ((W'.cell? ⟨w.heap.size, 3, none⟩ = some (.slice (some ⟨bb, ob, none⟩) m.length cb) ∧ W'.cell? ⟨w.heap.size + 1, 3, none⟩ = some (.slice (some ⟨bb', ob', none⟩) m'.length cb')) ∧ (W'.cell? ⟨bb, ob + i * 5, none⟩ = some (.string X) ∧ W'.cell? ⟨bb, ob + i * 5 + 1, none⟩ = some c0 ∧ W'.cell? ⟨bb, ob + i * 5 + 2, none⟩ = some c1 ∧ W'.cell? ⟨bb, ob + i * 5 + 3, none⟩ = some c2 ∧ W'.cell? ⟨bb, ob + i * 5 + 4, none⟩ = some c3) ∧ W'.cell? ⟨bb', ob' + q * 5, none⟩ = some (.string Y) ∧ W'.cell? ⟨bb', ob' + q * 5 + 1, none⟩ = some d0 ∧ W'.cell? ⟨bb', ob' + q * 5 + 2, none⟩ = some d1 ∧ W'.cell? ⟨bb', ob' + q * 5 + 3, none⟩ = some d2 ∧ W'.cell? ⟨bb', ob' + q * 5 + 4, none⟩ = some d3)) (exact HXC.out _ (by assumption)) (first
                    | (go_at_call 22; refine (HCx.out _ (by assumption)).mono ?_; rintro e wD ⟨⟨z', rfl, hz⟩, hbD⟩; have hzD := HT.out _ _ (by assumption) hbD))
                  have HQ3 := Hid.mk' (HQ2.out z' hz)
                  clear HCx HXC HQ2 hz hbrd hbrdd f2 f3 f2' f3' hbr hbD hfin g0 g1 g2 g3 g4 g0' g1' g2' g3' g4'
                  go_wp2
                  go_roundw
                  case rel =>
                    have hrl : ∃ (z : Bool) (p : Nat), Value.bool z' = .bool z ∧ Value.int .i64 ((q : Int) + 1) = .int .i64 p ∧ p ≤ m'.length ∧ Hid (z = true ↔ ∃ (r : Nat) (y : List UInt8 × J), r < p ∧ m'[r]? = some y ∧ y.1 = x.1 ∧ Eqv x.2 y.2) ∧ Below W0.heap.size W0 wD := ⟨z', q + 1, rfl, by go_num, by omega, HQ3, hzD⟩
                    first | exact hrl | ((repeat apply Exists.intro); exact ⟨hrl, rfl⟩)
                  case measure => simp [intOf]; omega
                · have HQ2 : Hid (z = true ↔ ∃ (p : Nat) (y : List UInt8 × J), p < q + 1 ∧ m'[p]? = some y ∧ y.1 = x.1 ∧ Eqv x.2 y.2) := by
                    refine ⟨fun h => ?_, fun ⟨p, y2, hp, hy2, e, h⟩ => ?_⟩
                    · obtain ⟨p, y2, hp, r⟩ := HQ.out.1 h
                      exact ⟨p, y2, by omega, r⟩
                    · rcases Nat.lt_or_ge p q with g | g
                      · exact HQ.out.2 ⟨p, y2, g, hy2, e, h⟩
                      · obtain rfl : p = q := by omega
                        obtain rfl := Option.some.inj (Hy.out.symm.trans hy2)
                        exact absurd e.symm hn
                  obtain ⟨⟨g0, g1, g2, g3, g4⟩, g0', g1', g2', g3', g4'⟩ := hcells
                  generalize strL x.1 = X at *
                  generalize strL y.1 = Y at *
                  have hbrd := hbr.drew
                  clear HX HMM HN HQ Hx Hy HEQ3 HF2 hn
                  go_wp2
                  go_region
                  clear f2 f3 f2' f3' hbr hfin g0 g1 g2 g3 g4 g0' g1' g2' g3' g4'
                  go_wp2
                  go_roundw
                  case rel => exact ⟨z, q + 1, rfl, by go_num, by omega, HQ2, hbrd⟩
                  case measure => simp [intOf]; omega
              · have hzz : z = true ↔ ∃ (p : Nat) (y : List UInt8 × J), m'[p]? = some y ∧ y.1 = x.1 ∧ Eqv x.2 y.2 := by
                  refine HQ.out.trans ⟨fun ⟨p, y, _, h⟩ => ⟨p, y, h⟩, fun ⟨p, y, h⟩ => ⟨p, y, ?_, h⟩⟩
                  have := (List.getElem?_eq_some_iff.1 h.1).1
                  omega
                have Hz := Hid.mk' hzz
                clear HQ HMM hzz
                cases z
                · have hng : ¬ G := fun hG => by
                    have := Hz.out.2 ((HF2.out hG).2.2.2.2.2 i x Hx.out)
                    cases this
                  clear HN HEQ3 HF2 Hx Hz
                  go_wp2
                  go_ret
                  exact ⟨⟨false, rfl, by simp [hng]⟩, hfin⟩
                · have HN2 : Hid (∀ (j : Nat) x, j < i + 1 → m[j]? = some x → ∃ (q : Nat) (y : List UInt8 × J), m'[q]? = some y ∧ y.1 = x.1 ∧ Eqv x.2 y.2) := fun j x' hj hx' => by
                    rcases Nat.lt_or_ge j i with g | g
                    · exact HN.out j x' g hx'
                    · obtain rfl : j = i := by omega
                      obtain rfl := Option.some.inj (Hx.out.symm.trans hx')
                      exact Hz.out.1 rfl
                  clear HN HEQ3 HF2 Hx Hz
                  go_wp2
                  go_roundw
                  case rel => exact ⟨i + 1, by go_num, by omega, HN2, hbr⟩
                  case measure => simp [intOf]; omega
          · have hG : G := HEQ3.out (fun j x hj hx => HN.out j x (by omega) hx)
            clear HN HEQ3 HMM HF2
            go_wp2
            go_ret
            exact ⟨⟨true, rfl, by simp [hG]⟩, hfin⟩
end Go.Proofs.YtjjoedkigjekcaaGreatDoor

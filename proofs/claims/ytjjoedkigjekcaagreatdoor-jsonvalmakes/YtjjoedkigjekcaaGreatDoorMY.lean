/-
  What is proved here: what jsonval.Int answers. · the law JsonvalMakes answers true at any text, any int and any list of values.
-/
import Derived.Test.YtjjoedkigjekcaaGreatDoorJX
import Derived.Test.YtjjoedkigjekcaaGreatDoorJU
import Derived.Deep.Slices
namespace Go.Proofs.YtjjoedkigjekcaaGreatDoor
open Go.RowKit

theorem digs_dec : ∀ f n, n < 10 ^ f → 0 < f → digs 10 f n = Lib.decDigits n
  | 0, n, _, h => by omega
  | f + 1, n, h, _ => by
    rw [Lib.decDigits]
    unfold digs
    by_cases h10 : n < 10
    · rw [if_pos h10, dif_pos h10]
      unfold dig
      first | rfl | (rw [if_pos h10])
    · rw [if_neg h10, dif_neg h10]
      have hf : 0 < f := by
        rcases f with _ | f
        · simp at h; omega
        · omega
      rw [digs_dec f (n / 10) (by rw [Nat.pow_succ] at h; omega) hf]
      congr 1
      unfold dig
      rw [if_pos (Nat.mod_lt _ (by omega))]
theorem itoaM_lib (n : Int) (h : -9223372036854775808 ≤ n ∧ n < 9223372036854775808) : itoaM n = Lib.itoa n := by
  unfold itoaM Lib.itoa
  by_cases hn : n < 0
  · rw [if_pos hn, if_pos hn, digs_dec 20 n.natAbs (by omega) (by omega)]
  · rw [if_neg hn, if_neg hn, digs_dec 20 n.toNat (by omega) (by omega)]
theorem int12_any (n : Int) (h : -9223372036854775808 ≤ n ∧ n < 9223372036854775808) (w : World) (p : Nat → Addr) (hg : Gl p w) :
    Calls Tryz.prog 31 #[.int .i64 n] w fun e w' => (∃ cs, e = .returned (.agg cs.toArray) ∧ VJ w' (.mk 3 (itoaM n) [] []) cs) ∧ Below w.heap.size w w' := by
  refine intOf_any n (itoaM n) w fun W hb => ?_
  refine (Tryz.strconv_Itoa n h.1 (by omega) W (hg.below hb).t10).mono ?_
  rintro e w' ⟨rfl, k, os, rfl⟩
  refine ⟨?_, Lib.below_grow _ _ (Nat.le_refl _) _ _⟩
  rw [itoaM_lib n h]
  rfl
end Go.Proofs.YtjjoedkigjekcaaGreatDoor
namespace Go.Proofs.YtjjoedkigjekcaaGreatDoor
open Go.RowKit

theorem arr_parts {W : World} {l : List J} {cs : List Value} (h : VJ W (.mk 5 [] l []) cs) : ∃ (aa : Option Addr) (aca : Nat) (ab : Option Addr) (acb : Nat), cs = [.int .i64 5, .string ⟨#[]⟩, .slice aa l.length aca, .slice ab 0 acb] ∧ ∀ j t, l[j]? = some t → ∃ ba oa ds, aa = some ⟨ba, oa, none⟩ ∧ CellsAt W ba (oa + j * 4) ds 4 ∧ VJ W t ds := by
  obtain ⟨aa, aca, ab, acb, rfl, h1, -⟩ := (VJ_mk ..).1 h
  exact ⟨aa, aca, ab, acb, rfl, h1⟩
theorem obj_parts {W : World} {m : List (List UInt8 × J)} {cs : List Value} (h : VJ W (.mk 6 [] [] m) cs) : ∃ (aa : Option Addr) (aca : Nat) (ab : Option Addr) (acb : Nat), cs = [.int .i64 6, .string ⟨#[]⟩, .slice aa 0 aca, .slice ab m.length acb] ∧ ∀ j x, m[j]? = some x → ∃ bb ob ds, ab = some ⟨bb, ob, none⟩ ∧ CellsAt W bb (ob + j * 5) (.string (strL x.1) :: ds) 5 ∧ VJ W x.2 ds := by
  obtain ⟨aa, aca, ab, acb, rfl, -, h1⟩ := (VJ_mk ..).1 h
  exact ⟨aa, aca, ab, acb, rfl, h1⟩
theorem digs_size (n : Nat) : (strL (digs 10 20 n)).size ≤ 20 := by
  have h : ∀ f n, (digs 10 f n).length ≤ f := by
    intro f
    induction f with
    | zero => intro n; simp [digs]
    | succ f ih =>
      intro n
      rw [digs]
      split
      · simp
      · have := ih (n / 10)
        simp; omega
  rw [strL_size]
  exact h 20 n
theorem itoa_len (n : Int) : (itoaM n).length ≤ 21 := by
  unfold itoaM
  split
  · have := digs_size n.natAbs
    rw [strL_size] at this
    rw [List.length_cons]; omega
  · have := digs_size n.toNat
    rw [strL_size] at this
    omega
set_option maxRecDepth 20000 in
set_option maxHeartbeats 8000000 in
theorem makes12_any (w : World) (p : Nat → Addr) (hg : Gl p w) (s : List UInt8) (hsl : s.length ≤ 140737488355328) (n : Int) (hn : -9223372036854775808 ≤ n ∧ n < 9223372036854775808) (v : Value) (l : List J) (hS : SL w v l) (hll : l.length ≤ 140737488355328) (hsm : ∀ t ∈ l, Small 140737488355328 t) :
    Calls Tryz.prog 6 #[.string (strL s), .int .i64 n, v] w fun e w' => e = .returned (.bool true) ∧ Below w.heap.size w w' := by
  obtain ⟨i0, hi, hiz0, hiz1, hiz2⟩ := info_parts Tryz.infoMember
  have hS0 := Hid.mk' hS
  obtain ⟨a, ca, rfl, hL⟩ := hS
  haveI : Inhabited (List Value) := ⟨[]⟩
  obtain ⟨C, hC⟩ := Go.Deep.choose_lt (α := List Value) (n := l.length) (p := fun j ds => ∃ ba oa, a = some ⟨ba, oa, none⟩ ∧ CellsAt w ba (oa + j * 4) ds 4 ∧ ∀ t, l[j]? = some t → VJ w t ds) (fun j hj => by
    obtain ⟨ba, oa, ds, e, h1, h2⟩ := hL j _ (List.getElem?_eq_getElem hj)
    refine ⟨ds, ba, oa, e, h1, fun t ht => ?_⟩
    obtain rfl := Option.some.inj ((List.getElem?_eq_getElem hj).symm.trans ht)
    exact h2)
  have HAW := Hid.mk' (awake12_any w p hg)
  have HGL : Hid (∀ W, Below w.heap.size w W → Gl p W) := fun W hb => hg.below hb
  have HLL : Hid (∀ (j : Nat) (t : J), l[j]? = some t → ∃ ba oa xk xS xa xn xca xb xm xcb, a = some ⟨ba, oa, none⟩ ∧ C j = [.int .i64 xk, .string xS, .slice xa xn xca, .slice xb xm xcb] ∧ ∀ W, Below w.heap.size w W → (W.cell? ⟨ba, oa + j * 4, none⟩ = some (.int .i64 xk) ∧ W.cell? ⟨ba, oa + j * 4 + 1, none⟩ = some (.string xS) ∧ W.cell? ⟨ba, oa + j * 4 + 2, none⟩ = some (.slice xa xn xca) ∧ W.cell? ⟨ba, oa + j * 4 + 3, none⟩ = some (.slice xb xm xcb)) ∧ VJ W t [.int .i64 xk, .string xS, .slice xa xn xca, .slice xb xm xcb]) := fun j t hj => by
    obtain ⟨ba, oa, rfl, h1, h2⟩ := hC j (List.getElem?_eq_some_iff.1 hj).1
    have hv := h2 t hj
    obtain ⟨xk, xS, xa, xn, xca, xb, xm, xcb, e⟩ := cell_forms hv
    rw [e] at h1 hv
    refine ⟨ba, oa, xk, xS, xa, xn, xca, xb, xm, xcb, rfl, e, fun W hb => ?_⟩
    have h1' := h1.below hb
    exact ⟨⟨h1'.2 0 _ rfl, h1'.2 1 _ rfl, h1'.2 2 _ rfl, h1'.2 3 _ rfl⟩, hv.below hb⟩
  have HC4 : Hid (∀ j t, l[j]? = some t → (C j).length = 4 ∧ ∀ W, Below w.heap.size w W → VJ W t (C j)) := fun j t hj => by
    obtain ⟨ba, oa, -, h1, h2⟩ := hC j (List.getElem?_eq_some_iff.1 hj).1
    exact ⟨h1.1, fun W hb => (h2 t hj).below hb⟩
  have HSM : Hid (∀ (j : Nat) (t : J), l[j]? = some t → Small 140737488355328 t) := fun j t hj => hsm t (List.mem_of_getElem? hj)
  have HT : Hid (∀ W W', Below w.heap.size w W → Below W.heap.size W W' → Below w.heap.size w W') := below_tr
  have hstart : Below w.heap.size w w := Below.refl _ _
  have hsz : (strL s).size = s.length := rfl
  obtain ⟨S, hSe⟩ : ∃ S, strL s = S := ⟨_, rfl⟩
  have HSe := Hid.mk' hSe
  rw [hSe] at hsz ⊢
  clear hSe hL hC hsm hg
  go_enter Tryz.func6, Tryz.ntmps6
  go_wp2_with fail
  refine HAW.out.mono ?_
  rintro e w1 ⟨rfl, hb1⟩
  have hz := HT.out _ _ hstart hb1
  clear HAW hstart hb1
  by_cases h1 : 2000 < s.length
  · have hd : decide ((s.length : Int) > 2000) = true := by rw [decide_eq_true_iff]; omega
    clear hS0 HLL HC4 HSM
    go_wp2
    go_ret
    exact ⟨rfl, hz⟩
  have hd : decide ((s.length : Int) > 2000) = false := by rw [decide_eq_false_iff_not]; omega
  by_cases h2 : 100 < l.length
  · have hd2 : decide ((l.length : Int) > 100) = true := by rw [decide_eq_true_iff]; omega
    clear hS0 HLL HC4 HSM
    go_wp2
    go_ret
    exact ⟨rfl, hz⟩
  have hd2 : decide ((l.length : Int) > 100) = false := by rw [decide_eq_false_iff_not]; omega
  have HW0 : Hid (∀ (j : Nat) (t : J), j < 0 → l[j]? = some t → weight t ≤ 20) := fun j t h => by omega
  have HR0 : Hid (w1.ownsRow w.heap.size 43 5 (.slice none 0 0) 0 (rowC S C 0)) := World.ownsRow_nil _ _ _ _
  go_wp2
  go_loopw [7, 8] (fun x7 x8 wr => ∃ (i : Nat), x8 = .int .i64 i ∧ i ≤ l.length ∧ Hid (wr.ownsRow w.heap.size 43 5 x7 i (rowC S C i)) ∧ Hid (∀ (j : Nat) (t : J), j < i → l[j]? = some t → weight t ≤ 20) ∧ Below w.heap.size w wr) (fun _ x8 _ => l.length - (intOf x8).toNat)
  case atStart => exact ⟨0, rfl, Nat.zero_le _, HR0, HW0, hz⟩
  case round =>
    clear HR0 HW0 hz
    obtain ⟨i, rfl, hil, HR, HW, hbr⟩ := hrel
    by_cases hlt : i < l.length
    · obtain ⟨t, ht⟩ := get_lt hlt
      obtain ⟨ba, oa, xk, xS, xa, xn, xca, xb, xm, xcb, rfl, hCi, hX⟩ := HLL.out i t ht
      obtain ⟨⟨g0, g1, g2, g3⟩, hv⟩ := hX _ hbr
      have HCT := Hid.mk' (count_any t (HSM.out i t ht) _ wr 20 (by omega) hv)
      have hcw := count_weight t 20
      have Ht := Hid.mk' ht
      have HX := Hid.mk' hX
      have HCI := Hid.mk' hCi
      by_cases hbig : 20 < weight t
      · have hcb : decide ((countM t 20 : Int) > 20) = true := by rw [decide_eq_true_iff]; have := hcw.2 hbig; omega
        clear HR HW HLL HC4 HSM hcw hX hCi hv ht HX HCI hS0
        go_wp2_with fail
        refine HCT.out.mono ?_
        rintro e w2 ⟨rfl, hb2⟩
        have hz2 := HT.out _ _ hbr hb2
        clear HCT g0 g1 g2 g3
        go_wp2
        go_ret
        exact ⟨rfl, hz2⟩
      · have hcb : decide ((countM t 20 : Int) > 20) = false := by rw [decide_eq_false_iff_not]; have := hcw.1 (by omega); omega
        have HW2 : Hid (∀ (j : Nat) (t : J), j < i + 1 → l[j]? = some t → weight t ≤ 20) := fun j t' hj hj' => by
          rcases Nat.lt_or_ge j i with g | g
          · exact HW.out j t' g hj'
          · obtain rfl : j = i := by omega
            obtain rfl := Option.some.inj (Ht.out.symm.trans hj')
            omega
        have HRN : Hid (rowC S C i ++ [.string S, .int .i64 xk, .string xS, .slice xa xn xca, .slice xb xm xcb] = rowC S C (i + 1)) := by
          show _ = _
          rw [rowC, HCI.out]
        clear HW HLL HC4 HSM hcw hX hCi hv ht HCI hS0
        go_wp2_with fail
        refine HCT.out.mono ?_
        rintro e w2 ⟨rfl, hb2⟩
        have hz2 := HT.out _ _ hbr hb2
        obtain ⟨⟨k0, k1, k2, k3⟩, -⟩ := HX.out _ hz2
        have HR2 := Hid.mk' (owns_below HR.out hb2)
        clear HCT g0 g1 g2 g3 HX HR hbr hb2
        have hs2 := hz2.size
        go_wp2_with (at_builtin; refine wpList_append_own _ rfl _ _ 23 rfl w.heap.size 43 i0 (.agg #[.string ⟨#[]⟩, .int .i64 0, .string ⟨#[]⟩, .slice none 0 0, .slice none 0 0]) 5 88 Tryz.underlying23 hi hiz0 hiz1 hiz2 rfl (by decide) _ _ _ rfl (HR2.out.alloc _) ⟨w2.heap.size, 0, none⟩ 1 1 [.string S, .int .i64 xk, .string xS, .slice xa xn xca, .slice xb xm xcb] rfl rfl (cells_new _ _ _) (by intro u hu; simp at hu; rcases hu with rfl | rfl | rfl | rfl | rfl <;> rfl) (by unfold maxLen; omega) (by omega) (by simp; omega) ?_; intro v' w3 hown' hgrow _; have HR3 : Hid (w3.ownsRow w.heap.size 43 5 v' (i + 1) (rowC S C (i + 1))) := (by rw [← HRN.out]; exact Hid.mk' hown'); have hz3 : Below w.heap.size w w3 := (hz2.alloc hs2 _).grown hgrow (by simp; omega) (fun j hj => (HR2.out.lt j hj).1); clear hown' hgrow HR2 hz2 k0 k1 k2 k3)
        go_roundw
        case rel => exact ⟨i + 1, by go_num, by omega, HR3, HW2, hz3⟩
        case measure => simp [intOf]; omega
    · obtain rfl : i = l.length := by omega
      clear HLL
      go_upto_if 45 with fail
      go_cut [9] from 44 to 60 (fun x wx => x = .string (strL (itoaM n)) ∧ Below wr.heap.size wr wx)
      case first =>
        have hst : Below wr.heap.size wr wr := Below.refl _ _
        have HT3 : Hid (∀ W W', Below wr.heap.size wr W → Below W.heap.size W W' → Below wr.heap.size wr W') := below_tr
        clear HC4 HSM HR HW hS0 HT
        rcases Int.lt_or_le n 0 with hneg | hpos
        · obtain ⟨N, rfl⟩ : ∃ N : Nat, n = -(N : Int) := ⟨n.natAbs, by omega⟩
          have hdn : decide (-(N : Int) ≥ 0) = false := by rw [decide_eq_false_iff_not]; omega
          have HI : Hid (itoaM (-(N : Int)) = 45 :: digs 10 20 N) := by
            show _ = _
            unfold itoaM
            rw [if_pos hneg, show (-(N : Int)).natAbs = N from by omega]
          obtain ⟨q, hq⟩ : ∃ q, N / 10 = q := ⟨_, rfl⟩
          obtain ⟨r, hr⟩ : ∃ r, N % 10 = r := ⟨_, rfl⟩
          have hqd : Int.tdiv (-(N : Int)) 10 = -(q : Int) := by rw [Int.neg_tdiv, ← hq]; rfl
          have hrd : Int.tmod (-(N : Int)) 10 = -(r : Int) := by rw [Int.neg_tmod, ← hr]; rfl
          have hw1 : IntKind.i64.wrap (-(q : Int)) = -(q : Int) := wrap_i64 (by omega) (by omega)
          have hw2 : IntKind.i64.wrap (-(-(q : Int))) = (q : Int) := by rw [wrap_i64 (by omega) (by omega)]; omega
          have hw3 : IntKind.i64.wrap (q : Int) = (q : Int) := wrap_i64 (by omega) (by omega)
          have hw4 : IntKind.i64.wrap (-(r : Int)) = -(r : Int) := wrap_i64 (by omega) (by omega)
          have hw5 : IntKind.i64.wrap (r : Int) = (r : Int) := wrap_i64 (by omega) (by omega)
          have HDQ : Hid (∀ W, _) := fun W => refDigits_any 10 q W rfl (by omega)
          have HDR : Hid (∀ W, _) := fun W => refDigits_any 10 r W rfl (by omega)
          have HBIG : Hid (10 ≤ N → (⟨#[45]⟩ : ByteArray) ++ strL (digs 10 20 q) ++ strL (digs 10 20 r) = strL (itoaM (-(N : Int)))) := fun h => by
            rw [HI.out, digs_parts N (by omega) h, hq, hr]
            show strL [45] ++ _ ++ _ = _
            rw [strL_append, strL_append]
            rfl
          have HSML : Hid (N < 10 → (⟨#[45]⟩ : ByteArray) ++ strL (digs 10 20 r) = strL (itoaM (-(N : Int)))) := fun h => by
            rw [HI.out, show N = r from by omega]
            exact strL_append [45] _
          have hzq : (strL (digs 10 20 q)).size ≤ 20 := digs_size q
          have hzr : (strL (digs 10 20 r)).size ≤ 20 := digs_size r
          generalize strL (digs 10 20 q) = Q at *
          generalize strL (digs 10 20 r) = RR at *
          go_wp2_with fail
          refine (HDQ.out _).mono ?_
          rintro e v1 ⟨rfl, hc1⟩
          have hd1 := HT3.out _ _ hst hc1
          clear HDQ hst hc1
          by_cases hbig : 10 ≤ N
          · have hdb : decide (-(N : Int) > -10) = false := by rw [decide_eq_false_iff_not]; omega
            have HB := Hid.mk' (HBIG.out hbig)
            clear HBIG HSML
            go_wp2_with fail
            refine (HDR.out _).mono ?_
            rintro e v2 ⟨rfl, hc2⟩
            have hd2 := HT3.out _ _ hd1 hc2
            clear HDR hd1 hc2
            go_wp2
            go_meet
            exact ⟨congrArg Value.string HB.out, hd2⟩
          · have hdb : decide (-(N : Int) > -10) = true := by rw [decide_eq_true_iff]; omega
            have HB := Hid.mk' (HSML.out (by omega))
            clear HBIG HSML
            go_wp2_with fail
            refine (HDR.out _).mono ?_
            rintro e v2 ⟨rfl, hc2⟩
            have hd2 := HT3.out _ _ hd1 hc2
            clear HDR hd1 hc2
            go_wp2
            go_meet
            exact ⟨congrArg Value.string HB.out, hd2⟩
        · obtain ⟨N, rfl⟩ : ∃ N : Nat, n = (N : Int) := ⟨n.toNat, by omega⟩
          have hdn : decide ((N : Int) ≥ 0) = true := by rw [decide_eq_true_iff]; omega
          have HI : Hid (strL (digs 10 20 N) = strL (itoaM (N : Int))) := by
            show _ = _
            unfold itoaM
            rw [if_neg (by omega), Int.toNat_natCast]
          have HDQ := Hid.mk' (refDigits_any 10 N wr rfl (by omega))
          rw [HI.out] at HDQ
          clear HI
          go_wp2_with fail
          refine HDQ.out.mono ?_
          rintro e v1 ⟨rfl, hc1⟩
          have hd1 := HT3.out _ _ hst hc1
          clear HDQ hst hc1
          go_wp2
          go_meet
          exact ⟨rfl, hd1⟩
      case rest =>
        obtain ⟨rfl, hb3⟩ := hcut
        have hz4 := HT.out _ _ hbr hb3
        have HR2 := Hid.mk' (owns_below HR.out hb3)
        obtain ⟨mb, mcap, hmv⟩ : ∃ (mb : Option Addr) (mcap : Nat), u7 = .slice mb l.length mcap := by
          rcases HR2.out.2 with ⟨h, h0⟩ | ⟨g, cap, cur, h, _⟩
          · exact ⟨none, 0, by rw [h, h0]⟩
          · exact ⟨_, _, h⟩
        subst hmv
        have HSMv := Hid.mk' (sm_row (W := wc) (s := s) (C := C) (l := l) (by rw [HSe.out]; exact HR2.out) (fun j t ht => ⟨(HC4.out j t ht).1, (HC4.out j t ht).2 _ hz4⟩))
        have HSLv : Hid (∀ W, Below w.heap.size w W → SL W (.slice a l.length ca) l) := fun W hb => by
          obtain ⟨a', ca', e, h⟩ := hS0.out
          refine ⟨a', ca', e, fun j t hj => ?_⟩
          obtain ⟨ba, oa, ds, e1, e2, e3⟩ := h j t hj
          exact ⟨ba, oa, ds, e1, e2.below hb, e3.below hb⟩
        have HLI := Hid.mk' (list12_any l (by omega) (fun t ht => by obtain ⟨q, hq⟩ := List.mem_iff_getElem?.1 ht; have := HW.out q t (List.getElem?_eq_some_iff.1 hq).1 hq; omega) _ wc (HSLv.out _ hz4))
        clear HR HR2 HC4 hS0 hbr hb3
        go_wp2_with fail
        refine HLI.out.mono ?_
        rintro e v1 ⟨⟨ds, rfl, hva⟩, hc1⟩
        have hz5 := HT.out _ _ hz4 hc1
        clear HLI
        obtain ⟨aa, aca, ab, acb, rfl, hAL⟩ := arr_parts hva
        have HAL : Hid (∀ (j : Nat) (t : J), l[j]? = some t → _) := fun j t hj => elem_at hAL hj
        have hSM1 : SM v1 (.slice mb l.length mcap) (l.map fun t => (s, t)) := by
          obtain ⟨b', cb', e, h⟩ := HSMv.out
          refine ⟨b', cb', e, fun j x hj => ?_⟩
          obtain ⟨bb, ob, ds, e1, e2, e3⟩ := h j x hj
          exact ⟨bb, ob, ds, e1, e2.below hc1, e3.below hc1⟩
        have HOB := Hid.mk' (obj12_any _ (by rw [List.length_map]; omega) (fun x hx => by obtain ⟨t, ht, rfl⟩ := List.mem_map.1 hx; obtain ⟨q, hq⟩ := List.mem_iff_getElem?.1 ht; have := HW.out q t (List.getElem?_eq_some_iff.1 hq).1 hq; show weight t ≤ 4000; omega) _ v1 hSM1)
        clear HSMv hSM1 hc1 hz4 hva hAL
        go_wp2_with fail
        refine HOB.out.mono ?_
        rintro e v2 ⟨⟨ds, rfl, hvb⟩, hc2⟩
        have hz6 := HT.out _ _ hz5 hc2
        obtain ⟨ba, bca, bb, bcb, rfl, hBM⟩ := obj_parts hvb
        rw [List.length_map]
        have HBM : Hid (∀ (j : Nat) (t : J), l[j]? = some t → _) := fun j t hj => memb_at (j := j) (x := (s, t)) hBM (by rw [List.getElem?_map, hj]; rfl)
        obtain ⟨W3, hW3, hsz3, hb3, ⟨a0, a1, a2, a3⟩, b0, b1, b2, b3⟩ := two_box v2 (.int .i64 5) (.string ⟨#[]⟩) (.slice aa l.length aca) (.slice ab 0 acb) (.int .i64 6) (.string ⟨#[]⟩) (.slice ba 0 bca) (.slice bb l.length bcb)
        have hz7 : Below w.heap.size w W3 := hz6.trans (hb3.mono hz6.size)
        have HW3 : Hid (∀ W, Below W3.heap.size W3 W → (W.cell? ⟨v2.heap.size, 2, none⟩ = some (.slice aa l.length aca) ∧ W.cell? ⟨v2.heap.size + 1, 3, none⟩ = some (.slice bb l.length bcb)) ∧ Below w.heap.size w W ∧ Below v1.heap.size v1 W ∧ Below v2.heap.size v2 W) := fun W hb => by
          have h2 := hb3.trans (hb.mono hb3.size)
          exact ⟨⟨(hb.cell (lt_of_cell a2)).trans a2, (hb.cell (lt_of_cell b3)).trans b3⟩, hz7.trans (hb.mono hz7.size), hc2.trans (h2.mono hc2.size), h2⟩
        have HT3 : Hid (∀ W W', Below W3.heap.size W3 W → Below W.heap.size W W' → Below W3.heap.size W3 W') := below_tr
        have hst3 : Below W3.heap.size W3 W3 := Below.refl _ _
        have HLS := Hid.mk' (HSLv.out _ hz7)
        clear HOB hvb hBM hc2 hz5 hz6 hb3 HSLv HT
        go_wp2
        go_loopw [12] (fun x12 wr => ∃ (i : Nat), x12 = .int .i64 i ∧ i ≤ l.length ∧ Below W3.heap.size W3 wr) (fun x12 _ => l.length - (intOf x12).toNat)
        case atStart => exact ⟨0, rfl, Nat.zero_le _, hst3⟩
        case round =>
          clear hst3 a0 a1 a2 a3 b0 b1 b2 b3 hz7
          obtain ⟨i, rfl, hil, hbr⟩ := hrel
          obtain ⟨⟨f2, f3⟩, hfin, -⟩ := HW3.out _ hbr
          by_cases hlt : i < l.length
          · obtain ⟨t, ht⟩ := get_lt hlt
            have Ht := Hid.mk' ht
            have Hwt : Hid (weight t ≤ 4000) := Hid.mk' (by have := HW.out i t hlt ht; omega)
            obtain ⟨p1, o1, x0, x1, x2, x3, rfl, HX⟩ := HAL.out i t ht
            obtain ⟨p2, o2, y0, y1, y2, y3, rfl, HY⟩ := HBM.out i t ht
            obtain ⟨a', ca', hae, hLz⟩ := HLS.out
            obtain ⟨rfl, rfl⟩ : a = a' ∧ ca = ca' := by simpa using hae
            obtain ⟨p3, o3, z0, z1, z2, z3, rfl, HZ⟩ := elem_at hLz ht
            have HXX := Hid.mk' HX
            have HYY := Hid.mk' HY
            have HZZ := Hid.mk' HZ
            clear HX HY HZ hae hLz ht
            have HSx : Hid (∀ W (c : Array Value), Below W3.heap.size W3 W → (c = #[x0, x1, x2, x3] ∨ c = #[y0, y1, y2, y3]) → Calls Tryz.prog 25 #[.agg c, .agg #[z0, z1, z2, z3]] W fun e w' => e = .returned (.bool true) ∧ Below W.heap.size W w') := fun W c hb hc => by
              rcases hc with rfl | rfl
              · refine (same_any t t _ _ W (HXX.out W (HW3.out W hb).2.2.1).2 (HZZ.out W hb).2 Hwt.out).mono ?_
                rintro e w' ⟨⟨zb, rfl, hzz⟩, hb'⟩
                exact ⟨by rw [hzz.2 rfl], hb'⟩
              · refine (same_any t t _ _ W (HYY.out W (HW3.out W hb).2.2.2).2 (HZZ.out W hb).2 Hwt.out).mono ?_
                rintro e w' ⟨⟨zb, rfl, hzz⟩, hb'⟩
                exact ⟨by rw [hzz.2 rfl], hb'⟩
            have HSS : Hid (∀ W', Below W3.heap.size W3 W' → (W'.cell? ⟨v2.heap.size, 2, none⟩ = some (.slice (some ⟨p1, o1, none⟩) l.length aca) ∧ W'.cell? ⟨v2.heap.size + 1, 3, none⟩ = some (.slice (some ⟨p2, o2, none⟩) l.length bcb)) ∧ (W'.cell? ⟨p1, o1 + i * 4, none⟩ = some x0 ∧ W'.cell? ⟨p1, o1 + i * 4 + 1, none⟩ = some x1 ∧ W'.cell? ⟨p1, o1 + i * 4 + 2, none⟩ = some x2 ∧ W'.cell? ⟨p1, o1 + i * 4 + 3, none⟩ = some x3) ∧ (W'.cell? ⟨p2, o2 + i * 5, none⟩ = some (.string S) ∧ W'.cell? ⟨p2, o2 + i * 5 + 1, none⟩ = some y0 ∧ W'.cell? ⟨p2, o2 + i * 5 + 2, none⟩ = some y1 ∧ W'.cell? ⟨p2, o2 + i * 5 + 3, none⟩ = some y2 ∧ W'.cell? ⟨p2, o2 + i * 5 + 4, none⟩ = some y3) ∧ (W'.cell? ⟨p3, o3 + i * 4, none⟩ = some z0 ∧ W'.cell? ⟨p3, o3 + i * 4 + 1, none⟩ = some z1 ∧ W'.cell? ⟨p3, o3 + i * 4 + 2, none⟩ = some z2 ∧ W'.cell? ⟨p3, o3 + i * 4 + 3, none⟩ = some z3)) := fun W hb => ⟨(HW3.out W hb).1, (HXX.out W (HW3.out W hb).2.2.1).1, by have h := (HYY.out W (HW3.out W hb).2.2.2).1; rw [HSe.out] at h; exact h, (HZZ.out W hb).1⟩
            have hself : (S.toList == S.toList) = true := by simp
            have hselfn : (S.toList != S.toList) = false := by simp
            have hbrd := hbr.drew
            clear HAL HBM HXX HYY HZZ HLS HW HSM Ht Hwt
            go_wp2
            go_region_held3 (fun W' => (W'.cell? ⟨v2.heap.size, 2, none⟩ = some (.slice (some ⟨p1, o1, none⟩) l.length aca) ∧ W'.cell? ⟨v2.heap.size + 1, 3, none⟩ = some (.slice (some ⟨p2, o2, none⟩) l.length bcb)) ∧ (W'.cell? ⟨p1, o1 + i * 4, none⟩ = some x0 ∧ W'.cell? ⟨p1, o1 + i * 4 + 1, none⟩ = some x1 ∧ W'.cell? ⟨p1, o1 + i * 4 + 2, none⟩ = some x2 ∧ W'.cell? ⟨p1, o1 + i * 4 + 3, none⟩ = some x3) ∧ (W'.cell? ⟨p2, o2 + i * 5, none⟩ = some (.string S) ∧ W'.cell? ⟨p2, o2 + i * 5 + 1, none⟩ = some y0 ∧ W'.cell? ⟨p2, o2 + i * 5 + 2, none⟩ = some y1 ∧ W'.cell? ⟨p2, o2 + i * 5 + 3, none⟩ = some y2 ∧ W'.cell? ⟨p2, o2 + i * 5 + 4, none⟩ = some y3) ∧ (W'.cell? ⟨p3, o3 + i * 4, none⟩ = some z0 ∧ W'.cell? ⟨p3, o3 + i * 4 + 1, none⟩ = some z1 ∧ W'.cell? ⟨p3, o3 + i * 4 + 2, none⟩ = some z2 ∧ W'.cell? ⟨p3, o3 + i * 4 + 3, none⟩ = some z3)) (exact HSS.out _ (by assumption)) (first
              | (go_at_call 25; refine (HSx.out _ _ (by assumption) ?_).mono ?_; (first | exact .inl rfl | exact .inr rfl); rintro e wS ⟨rfl, hbS⟩; have hzS := HT3.out _ _ (by assumption) hbS))
            clear HSx HSS hbrd f2 f3 hbr hfin hbS
            go_wp2
            go_roundw
            case rel =>
              have hrl : ∃ (i' : Nat), Value.int .i64 ((i : Int) + 1) = .int .i64 i' ∧ i' ≤ l.length ∧ Below W3.heap.size W3 wS := ⟨i + 1, by go_num, by omega, hzS⟩
              first | exact hrl | ((repeat apply Exists.intro); exact ⟨hrl, rfl⟩)
            case measure => simp [intOf]; omega
          · have HST := Hid.mk' (str12_any s wr)
            rw [HSe.out] at HST
            have HIN : Hid (∀ W, Below w.heap.size w W → _) := fun W hb => int12_any n hn W p (HGL.out W hb)
            obtain ⟨D, hD⟩ : ∃ D, strL (itoaM n) = D := ⟨_, rfl⟩
            have HD := Hid.mk' hD
            rw [hD]
            clear HAL HBM HLS HW HSM hD f2 f3 hfin
            go_wp2_with fail
            refine HST.out.mono ?_
            rintro e v3 ⟨⟨ds, rfl, hvs⟩, hc3⟩
            have hd3 := HT3.out _ _ hbr hc3
            have HS4 := Hid.mk' (same_any (.mk 4 s [] []) (.mk 4 s [] []) ds [.int .i64 4, .string S, .slice none 0 0, .slice none 0 0] v3 hvs ((VJ_mk ..).2 ⟨none, 0, none, 0, by rw [HSe.out]; rfl, fun j t h => by simp at h, fun j x h => by simp at h⟩) (by rw [weight_mk]; simp; omega))
            obtain ⟨e0, e1, e2, e3, rfl⟩ := four_cells hvs
            clear HST hvs hc3 hbr
            go_wp2_with fail
            refine HS4.out.mono ?_
            rintro e v4 ⟨⟨zb, rfl, hzz⟩, hc4⟩
            obtain rfl : zb = true := hzz.2 trivial
            have hd4 := HT3.out _ _ hd3 hc4
            clear HS4 hzz hc4 hd3
            go_wp2_with fail
            refine (HIN.out _ (HW3.out _ hd4).2.1).mono ?_
            rintro e v5 ⟨⟨ds, rfl, hvi⟩, hc5⟩
            have hd5 := HT3.out _ _ hd4 hc5
            have HS5 := Hid.mk' (same_any (.mk 3 (itoaM n) [] []) (.mk 3 (itoaM n) [] []) ds [.int .i64 3, .string D, .slice none 0 0, .slice none 0 0] v5 hvi ((VJ_mk ..).2 ⟨none, 0, none, 0, by rw [HD.out]; rfl, fun j t h => by simp at h, fun j x h => by simp at h⟩) (by rw [weight_mk]; have := itoa_len n; simp; omega))
            obtain ⟨k0, k1, k2, k3, rfl⟩ := four_cells hvi
            clear HIN hvi hc5 hd4
            go_wp2_with fail
            refine HS5.out.mono ?_
            rintro e v6 ⟨⟨zb, rfl, hzz⟩, hc6⟩
            obtain rfl : zb = true := hzz.2 trivial
            have hfin6 := (HW3.out _ (HT3.out _ _ hd5 hc6)).2.1
            clear HS5 hzz hc6 hd5
            go_wp2
            go_ret
            exact ⟨rfl, hfin6⟩
theorem makes12S_any (w : World) (p : Nat → Addr) (hg : Gl p w) (s : ByteArray) (hsl : s.size ≤ 140737488355328) (n : Int) (wn : (Lit.int .i64 n).wf = true) (v : Value) (l : List J) (hS : SL w v l) (hll : l.length ≤ 140737488355328) (hsm : ∀ t ∈ l, Small 140737488355328 t) :
    Calls Tryz.prog 6 #[.string s, .int .i64 n, v] w fun e w' => e = .returned (.bool true) ∧ Below w.heap.size w w' := by
  have hn : -9223372036854775808 ≤ n ∧ n < 9223372036854775808 := by
    have : -9223372036854775808 ≤ n ∧ n ≤ 9223372036854775807 := by simpa [Lit.wf, IntKind.min, IntKind.max, IntKind.signed, IntKind.bits] using wn
    omega
  have h := makes12_any w p hg s.data.toList hsl n hn v l hS hll hsm
  rw [strL_of] at h
  exact h
end Go.Proofs.YtjjoedkigjekcaaGreatDoor

/-
  What is proved here: what jsonval.checkFrom and Check answer.
-/
import Derived.Test.YtjjoedkigjekcaaGreatDoorK6
import Derived.Test.YtjjoedkigjekcaaGreatDoorJ9
import Derived.Test.YtjjoedkigjekcaaGreatDoorJP0
namespace Go.Proofs.YtjjoedkigjekcaaGreatDoor
open Go.RowKit

/-- what checkFrom answers: how far it counted, or a Fault -/
def Told (w w' : World) (p : Nat → Addr) (x : Nat × Nat) (e : Ending) : Prop :=
  (x.2 = 0 ∧ e = .returned (.tuple #[.int .i64 (x.1 : Nat), .nilIface])) ∨
  (x.2 ≠ 0 ∧ ∃ bk, e = .returned (.tuple #[.int .i64 0, .iface 53 (.pointer (some ⟨bk, 0, none⟩))]) ∧ Flt w' (.iface 53 (.pointer (some ⟨bk, 0, none⟩))) w.heap.size (x.1 : Nat) (p x.2))
theorem Told.ok {w w' : World} {p : Nat → Addr} {n : Nat} {e : Ending} (h : Told w w' p (n, 0) e) : e = .returned (.tuple #[.int .i64 n, .nilIface]) := by
  rcases h with h | h
  · exact h.2
  · exact absurd rfl h.1
theorem Told.bad {w w' : World} {p : Nat → Addr} {n c : Nat} {e : Ending} (hc : c ≠ 0) (h : Told w w' p (n, c) e) : ∃ bk, e = .returned (.tuple #[.int .i64 0, .iface 53 (.pointer (some ⟨bk, 0, none⟩))]) ∧ Flt w' (.iface 53 (.pointer (some ⟨bk, 0, none⟩))) w.heap.size n (p c) := by
  rcases h with h | h
  · exact absurd h.1 hc
  · exact h.2
set_option maxRecDepth 20000 in
set_option maxHeartbeats 8000000 in
theorem checkFrom_any (p : Nat → Addr) : ∀ t : J, weight t ≤ 4000 → ∀ (cs : List Value) (w : World) (lv n : Nat), lv ≤ 33 → n + weight t ≤ 100000 → Gl p w → VJ w t cs →
    Calls Tryz.prog 36 #[.agg cs.toArray, .int .i64 n, .int .i64 lv] w fun e w' => Told w w' p (lookM gd t lv n) e ∧ Below w.heap.size w w' := by
  refine J.ind ?_
  intro k s l m ihl ihm hwt cs w lv n hlv hnw hgl hv
  obtain ⟨a, ca, b, cb, rfl, hL, hM⟩ := (VJ_mk ..).1 hv
  obtain ⟨hs1, hs2, hs3, hs4, hs5⟩ := weight_parts hwt
  obtain ⟨W0, hW0, hsz, hb0, e0, e1, e2, e3⟩ := val_box w (.int .i64 k) (.string (strL s)) (.slice a l.length ca) (.slice b m.length cb)
  have hM0 : MemAt W0 b m := MemAt.below hM hb0
  have HONE : Hid (Calls Tryz.prog 58 #[.agg #[.int .i64 k, .string (strL s), .slice a l.length ca, .slice b m.length cb], .int .i64 lv] W0 fun e w' => e = .returned (errV p (oneM gd lv k s l.length (m.map fun x => x.1))) ∧ Below W0.heap.size W0 w') :=
    Hid.mk' (faultOf_any k s a l.length ca m b cb lv W0 p (hgl.below hb0) hM0 (fun x hx => by have := hs5 x hx; omega) hs3 hs1)
  generalize strL s = S at *
  have HLL : Hid (∀ (j : Nat) (t : J), l[j]? = some t → ∃ (ba oa : Nat) (q0 : Int) (q1 : ByteArray) (q2 : Option Addr) (x2 y2 : Nat) (q3 : Option Addr) (x3 y3 : Nat), a = some ⟨ba, oa, none⟩ ∧ ∀ W, Below w.heap.size w W → (W.cell? ⟨ba, oa + j * 4, none⟩ = some (.int .i64 q0) ∧ W.cell? ⟨ba, oa + j * 4 + 1, none⟩ = some (.string q1) ∧ W.cell? ⟨ba, oa + j * 4 + 2, none⟩ = some (.slice q2 x2 y2) ∧ W.cell? ⟨ba, oa + j * 4 + 3, none⟩ = some (.slice q3 x3 y3)) ∧ ∀ lv n : Nat, lv ≤ 33 → n + weight t ≤ 100000 → Calls Tryz.prog 36 #[.agg #[.int .i64 q0, .string q1, .slice q2 x2 y2, .slice q3 x3 y3], .int .i64 n, .int .i64 lv] W fun e w' => Told W w' p (lookM gd t lv n) e ∧ Below W.heap.size W w') := fun j t hj => by
    obtain ⟨ba, oa, q0, q1, q2, x2, y2, q3, x3, y3, e, h⟩ := elem_full hL hj
    exact ⟨ba, oa, q0, q1, q2, x2, y2, q3, x3, y3, e, fun W hb => ⟨(h W hb).1, fun lv n h1 h2 => ihl t (List.mem_of_getElem? hj) (hs4 t (List.mem_of_getElem? hj)) _ W lv n h1 h2 (hgl.below hb) (h W hb).2⟩⟩
  have HMM : Hid (∀ (j : Nat) (x : List UInt8 × J), m[j]? = some x → ∃ (ba oa : Nat) (q0 : Int) (q1 : ByteArray) (q2 : Option Addr) (x2 y2 : Nat) (q3 : Option Addr) (x3 y3 : Nat), b = some ⟨ba, oa, none⟩ ∧ ∀ W, Below w.heap.size w W → (W.cell? ⟨ba, oa + j * 5, none⟩ = some (.string (strL x.1)) ∧ W.cell? ⟨ba, oa + j * 5 + 1, none⟩ = some (.int .i64 q0) ∧ W.cell? ⟨ba, oa + j * 5 + 2, none⟩ = some (.string q1) ∧ W.cell? ⟨ba, oa + j * 5 + 3, none⟩ = some (.slice q2 x2 y2) ∧ W.cell? ⟨ba, oa + j * 5 + 4, none⟩ = some (.slice q3 x3 y3)) ∧ ∀ lv n : Nat, lv ≤ 33 → n + weight x.2 ≤ 100000 → Calls Tryz.prog 36 #[.agg #[.int .i64 q0, .string q1, .slice q2 x2 y2, .slice q3 x3 y3], .int .i64 n, .int .i64 lv] W fun e w' => Told W w' p (lookM gd x.2 lv n) e ∧ Below W.heap.size W w') := fun j x hj => by
    obtain ⟨ba, oa, q0, q1, q2, x2, y2, q3, x3, y3, e, h⟩ := memb_full hM hj
    exact ⟨ba, oa, q0, q1, q2, x2, y2, q3, x3, y3, e, fun W hb => ⟨(h W hb).1, fun lv n h1 h2 => ihm x (List.mem_of_getElem? hj) (by have := hs5 x (List.mem_of_getElem? hj); omega) _ W lv n h1 h2 (hgl.below hb) (h W hb).2⟩⟩
  have HE : Hid (∀ W, Below W0.heap.size W0 W → (W.cell? ⟨w.heap.size, 2, none⟩ = some (.slice a l.length ca) ∧ W.cell? ⟨w.heap.size, 3, none⟩ = some (.slice b m.length cb)) ∧ Below w.heap.size w W) := fun W hb =>
    ⟨⟨(hb.cell (lt_of_cell e2)).trans e2, (hb.cell (lt_of_cell e3)).trans e3⟩, hb0.trans (hb.mono hb0.size)⟩
  have HT : Hid (∀ W W', Below W0.heap.size W0 W → Below W.heap.size W W' → Below W0.heap.size W0 W') := below_tr
  have HS0 : Hid (∀ W, Below W0.heap.size W0 W → w.heap.size ≤ W.heap.size) := fun W hb => by have := hb.size; omega
  obtain ⟨R, hR⟩ : ∃ R, lookM gd (.mk k s l m) lv n = R := ⟨_, rfl⟩
  rw [hR]
  rw [lookM_mk, lookF, List.length_map, List.map_map, List.map_map] at hR
  have hwe := weight_mk k s l m
  rw [hwe] at hnw
  obtain ⟨c, hc⟩ : ∃ c, oneM gd lv k s l.length (m.map fun x => x.1) = c := ⟨_, rfl⟩
  have HR : Hid ((if c = 0 then (if (seqF (l.map (lookM gd)) (lv + 1) (n + 1)).2 = 0 then seqF (m.map fun x => lookM gd x.2) (lv + 1) (seqF (l.map (lookM gd)) (lv + 1) (n + 1)).1 else seqF (l.map (lookM gd)) (lv + 1) (n + 1)) else (n, c)) = R) := by
    show _ = _
    rw [← hR, ← hc]
    rfl
  have HLV : Hid (c = 0 → lv ≤ 32) := fun h => (one_shape (hc.trans h)).2.1
  rw [hc] at HONE
  have HSZ := Hid.mk' (look_le gd)
  have HSW := Hid.mk' size_weight
  have HWS : Hid (∀ (j : Nat) (t : J), l[j]? = some t → ((l.drop j).map weight).sum = weight t + ((l.drop (j + 1)).map weight).sum) := fun j t => sum_at
  have HWM : Hid (∀ (j : Nat) (x : List UInt8 × J), m[j]? = some x → ((m.drop j).map fun x => x.1.length + weight x.2).sum = x.1.length + weight x.2 + ((m.drop (j + 1)).map fun x => x.1.length + weight x.2).sum) := fun j x => sum_at (f := fun x : List UInt8 × J => x.1.length + weight x.2)
  clear hR hc ihl ihm hL hM hv hwt hs4 hs5 hwe hM0 hgl
  have hstart : Below W0.heap.size W0 W0 := Below.refl _ _
  by_cases h0 : c ≠ 0
  · have hRR : R = (n, c) := HR.out.symm.trans (if_neg h0)
    have hev : errV p c = .iface 185 (.pointer (some (p c))) := if_neg h0
    rw [hev] at HONE
    subst hRR
    clear HR HLV HSZ HSW HWS HWM HLL HMM hev
    have HC0 := Hid.mk' h0
    clear h0
    go_enter Tryz.func36, Tryz.ntmps36
    go_wp2_with fail
    refine HONE.out.mono ?_
    rintro e w1 ⟨rfl, hb1⟩
    have hz1 := HT.out _ _ hstart hb1
    have hfin1 := (HE.out _ hz1).2
    have hsz1 := HS0.out _ hz1
    clear HONE e0 e1 e2 e3 hstart HE HT HS0
    go_wp2
    go_ret2
    refine ⟨.inr ⟨HC0.out, _, rfl, ⟨w1.heap.size, hsz1, rfl, ?_, ?_⟩⟩, ?_⟩
    · simp
    · simp
    · exact hfin1.alloc hsz1 _
  have h0 : c = 0 := by omega
  subst h0
  have hlv32 := HLV.out rfl
  have HONE : Hid (Calls Tryz.prog 58 #[.agg #[.int .i64 k, .string S, .slice a l.length ca, .slice b m.length cb], .int .i64 lv] W0 fun e w' => e = .returned .nilIface ∧ Below W0.heap.size W0 w') := HONE
  obtain ⟨P, hP⟩ : ∃ P, seqF (l.map (lookM gd)) (lv + 1) (n + 1) = P := ⟨_, rfl⟩
  have HP : Hid (seqF ((l.drop 0).map (lookM gd)) (lv + 1) (n + 1) = P) := hP
  have HR2 : Hid ((if P.2 = 0 then seqF (m.map fun x => lookM gd x.2) (lv + 1) P.1 else P) = R) := by
    have h : (if (seqF (l.map (lookM gd)) (lv + 1) (n + 1)).2 = 0 then seqF (m.map fun x => lookM gd x.2) (lv + 1) (seqF (l.map (lookM gd)) (lv + 1) (n + 1)).1 else seqF (l.map (lookM gd)) (lv + 1) (n + 1)) = R := HR.out
    rw [hP] at h
    exact h
  have hwl : Hid (n + 1 + ((l.drop 0).map weight).sum + (m.map fun x => x.1.length + weight x.2).sum ≤ 100000) := by
    show _ ≤ _
    have : l.drop 0 = l := rfl
    rw [this]; omega
  have hw1 : IntKind.i64.wrap ((lv : Int) + 1) = ((lv + 1 : Nat) : Int) := by rw [wrap_i64 (by omega) (by omega)]; omega
  have hnz : n ≤ 100000 := by omega
  clear hP HR hnw HLV h0
  go_enter Tryz.func36, Tryz.ntmps36
  go_wp2_with fail
  refine HONE.out.mono ?_
  rintro e w1 ⟨rfl, hb1⟩
  have hz1 := HT.out _ _ hstart hb1
  obtain ⟨⟨d2, d3⟩, hfin1⟩ := HE.out _ hz1
  clear HONE e0 e1 e2 e3 hstart hb1
  go_wp2
  go_loopw [6, 28] (fun x2 x9 wr => ∃ (j n : Nat), x2 = .int .i64 n ∧ x9 = .int .i64 j ∧ j ≤ l.length ∧ n ≤ 100000 ∧ Hid (seqF ((l.drop j).map (lookM gd)) (lv + 1) n = P) ∧ Hid (n + ((l.drop j).map weight).sum + (m.map fun x => x.1.length + weight x.2).sum ≤ 100000) ∧ Below W0.heap.size W0 wr) (fun _ x9 _ => l.length - (intOf x9).toNat)
  case atStart => exact ⟨0, n + 1, by go_num, rfl, Nat.zero_le _, by have := hwl.out; omega, HP, hwl, hz1⟩
  case round =>
    clear HP hwl hz1 hfin1 d2 d3
    obtain ⟨j, n, rfl, rfl, hj, hn, HC, HW, hbr⟩ := hrel
    obtain ⟨⟨f2, f3⟩, hfin⟩ := HE.out _ hbr
    by_cases hlt : j < l.length
    · obtain ⟨t, ht⟩ := get_lt hlt
      obtain ⟨ba, oa, q0, q1, q2, x2, y2, q3, x3, y3, rfl, HX⟩ := HLL.out j t ht
      obtain ⟨⟨g0, g1, g2, g3⟩, -⟩ := HX _ hfin
      obtain ⟨W2, hW2, hsz2, hb2, b0, b1, b2, b3⟩ := val_box wr (.int .i64 q0) (.string q1) (.slice q2 x2 y2) (.slice q3 x3 y3)
      have hz2 := HT.out _ _ hbr hb2
      obtain ⟨-, hfin2⟩ := HE.out _ hz2
      obtain ⟨-, HXc⟩ := HX _ hfin2
      have hwj := HWS.out j t ht
      have hww := HW.out
      rw [hwj] at hww
      have HX1 := Hid.mk' (HXc (lv + 1) n (by omega) (by omega))
      have hcn := HC.out
      rw [seqF_at ht] at hcn
      have hsz1 := HSZ.out t (lv + 1) n
      have hsw1 := HSW.out t
      generalize lookM gd t (lv + 1) n = q at *
      generalize weight t = wt at *
      obtain ⟨n2, e2⟩ := q
      simp only [] at hcn hsz1
      by_cases he : e2 = 0
      · subst he
        have HC2 : Hid (seqF ((l.drop (j + 1)).map (lookM gd)) (lv + 1) n2 = P) := hcn
        have HW2 : Hid (n2 + ((l.drop (j + 1)).map weight).sum + (m.map fun x => x.1.length + weight x.2).sum ≤ 100000) := by show _ ≤ _; omega
        have hn2 : n2 ≤ 100000 := by omega
        clear HX HXc HLL HMM HC HW ht hcn hww hwj HWS HWM HSZ HSW HR2 hb2 hbr
        go_wp2_with fail
        refine HX1.out.mono ?_
        rintro e w1 ⟨hT1, hb1⟩
        obtain rfl := hT1.ok
        have hz3 := HT.out _ _ hz2 hb1
        clear HX1 g0 g1 g2 g3 f2 f3 hfin hb1 hT1 b0 b1 b2 b3 hz2 hfin2
        go_wp2
        go_roundw
        case rel => exact ⟨j + 1, n2, rfl, by go_num, by omega, hn2, HC2, HW2, hz3⟩
        case measure => simp [intOf]; omega
      · have hPP : (n2, e2) = P := by rw [if_neg he] at hcn; exact hcn
        have hRR : R = (n2, e2) := by
          have := HR2.out
          rw [← hPP, if_neg he] at this
          exact this.symm
        have HS2 := HS0.out _ hz2
        subst hRR
        have HE2 := Hid.mk' he
        clear HX HXc HLL HMM HC HW ht hcn hww hwj HWS HWM HSZ HSW HR2 hPP he hb2 hbr
        go_wp2_with fail
        refine HX1.out.mono ?_
        rintro e w1 ⟨hT1, hb1⟩
        obtain ⟨bk, rfl, hF⟩ := hT1.bad HE2.out
        have HF := Hid.mk' hF
        have hz3 := (HE.out _ (HT.out _ _ hz2 hb1)).2
        clear HX1 g0 g1 g2 g3 f2 f3 hfin hb1 hT1 b0 b1 b2 b3 hz2 hfin2 hF
        go_wp2
        go_ret2
        exact ⟨.inr ⟨HE2.out, _, rfl, HF.out.weaken HS2 rfl⟩, hz3⟩
    · have hPP : (n, 0) = P := by
        have := HC.out
        rw [List.drop_eq_nil_of_le (by omega)] at this
        exact this
      have HC2 : Hid (seqF ((m.drop 0).map fun x => lookM gd x.2) (lv + 1) n = R) := by
        have := HR2.out
        rw [← hPP] at this
        exact this
      have HW2 : Hid (n + ((m.drop 0).map fun x => x.1.length + weight x.2).sum ≤ 100000) := by
        have := HW.out
        show _ ≤ _
        rw [show m.drop 0 = m from rfl]
        omega
      clear HC HW hPP HLL HWS HR2
      go_wp2
      go_loopw [6, 47] (fun x2 x9 wr => ∃ (j n : Nat), x2 = .int .i64 n ∧ x9 = .int .i64 j ∧ j ≤ m.length ∧ n ≤ 100000 ∧ Hid (seqF ((m.drop j).map fun x => lookM gd x.2) (lv + 1) n = R) ∧ Hid (n + ((m.drop j).map fun x => x.1.length + weight x.2).sum ≤ 100000) ∧ Below W0.heap.size W0 wr) (fun _ x9 _ => m.length - (intOf x9).toNat)
      case atStart => exact ⟨0, n, rfl, rfl, Nat.zero_le _, hn, HC2, HW2, hbr⟩
      case round =>
        clear HC2 HW2 hbr hfin f2 f3
        obtain ⟨j, n, rfl, rfl, hj, hn, HC, HW, hbr⟩ := hrel
        obtain ⟨⟨f2, f3⟩, hfin⟩ := HE.out _ hbr
        by_cases hlt : j < m.length
        · obtain ⟨x, ht⟩ := get_lt hlt
          obtain ⟨ba, oa, q0, q1, q2, x2, y2, q3, x3, y3, rfl, HX⟩ := HMM.out j x ht
          obtain ⟨⟨g0, g1, g2, g3, g4⟩, -⟩ := HX _ hfin
          obtain ⟨W2, hW2, hsz2, hb2, b0, b1, b2, b3, b4⟩ := mem_box wr (.string (strL x.1)) (.int .i64 q0) (.string q1) (.slice q2 x2 y2) (.slice q3 x3 y3)
          have hz2 := HT.out _ _ hbr hb2
          obtain ⟨-, hfin2⟩ := HE.out _ hz2
          obtain ⟨-, HXc⟩ := HX _ hfin2
          have hwj := HWM.out j x ht
          have hww := HW.out
          rw [hwj] at hww
          have HX1 := Hid.mk' (HXc (lv + 1) n (by omega) (by omega))
          have hcn := HC.out
          rw [seqM_at ht] at hcn
          have hsz1 := HSZ.out x.2 (lv + 1) n
          have hsw1 := HSW.out x.2
          generalize lookM gd x.2 (lv + 1) n = q at *
          generalize weight x.2 = wt at *
          generalize strL x.1 = X at *
          obtain ⟨n2, e2⟩ := q
          simp only [] at hcn hsz1
          by_cases he : e2 = 0
          · subst he
            have HC2 : Hid (seqF ((m.drop (j + 1)).map fun x => lookM gd x.2) (lv + 1) n2 = R) := hcn
            have HW2 : Hid (n2 + ((m.drop (j + 1)).map fun x => x.1.length + weight x.2).sum ≤ 100000) := by show _ ≤ _; omega
            have hn2 : n2 ≤ 100000 := by omega
            clear HX HXc HMM HC HW ht hcn hww hwj HWM HSZ HSW hb2 hbr
            go_wp2_with fail
            refine HX1.out.mono ?_
            rintro e w1 ⟨hT1, hb1⟩
            obtain rfl := hT1.ok
            have hz3 := HT.out _ _ hz2 hb1
            clear HX1 g0 g1 g2 g3 g4 f2 f3 hfin hb1 hT1 b0 b1 b2 b3 b4 hz2 hfin2
            go_wp2
            go_roundw
            case rel => exact ⟨j + 1, n2, rfl, by go_num, by omega, hn2, HC2, HW2, hz3⟩
            case measure => simp [intOf]; omega
          · have hRR : R = (n2, e2) := by rw [if_neg he] at hcn; exact hcn.symm
            have HS2 := HS0.out _ hz2
            subst hRR
            have HE2 := Hid.mk' he
            clear HX HXc HMM HC HW ht hcn hww hwj HWM HSZ HSW he hb2 hbr
            go_wp2_with fail
            refine HX1.out.mono ?_
            rintro e w1 ⟨hT1, hb1⟩
            obtain ⟨bk, rfl, hF⟩ := hT1.bad HE2.out
            have HF := Hid.mk' hF
            have hz3 := (HE.out _ (HT.out _ _ hz2 hb1)).2
            clear HX1 g0 g1 g2 g3 g4 f2 f3 hfin hb1 hT1 b0 b1 b2 b3 b4 hz2 hfin2 hF
            go_wp2
            go_ret2
            exact ⟨.inr ⟨HE2.out, _, rfl, HF.out.weaken HS2 rfl⟩, hz3⟩
        · have hRR : R = (n, 0) := by
            have := HC.out
            rw [List.drop_eq_nil_of_le (by omega)] at this
            exact this.symm
          subst hRR
          clear HC HW HMM HWM HSZ HSW
          go_wp2
          go_ret2
          exact ⟨.inl ⟨rfl, rfl⟩, hfin⟩
set_option maxHeartbeats 1000000 in
theorem check12_any (t : J) (hw : weight t ≤ 4000) (cs : List Value) (w : World) (p : Nat → Addr) (hg : Gl p w) (hv : VJ w t cs) :
    Calls Tryz.prog 12 #[.agg cs.toArray] w fun e w' => ∃ v, e = .returned v ∧ Says w' v w.heap.size p (checkM gd t) ∧ Below w.heap.size w w' := by
  obtain ⟨a, ca, b, cb, rfl⟩ := hv.cells
  obtain ⟨W0, hW0, hsz, hb0, e0, e1, e2, e3⟩ := val_box w (.int .i64 t.k) (.string (strL t.s)) (.slice a t.l.length ca) (.slice b t.m.length cb)
  have HL := Hid.mk' (checkFrom_any p t hw _ W0 1 0 (by omega) (by omega) (hg.below hb0) (hv.below hb0))
  unfold checkM
  generalize lookM gd t 1 0 = q at *
  obtain ⟨n, c⟩ := q
  generalize strL t.s = S at *
  clear hv hg
  simp only [] at HL ⊢
  by_cases h0 : c = 0
  · subst h0
    rw [if_pos rfl]
    go_enter Tryz.func12, Tryz.ntmps12
    go_wp2_with fail
    refine HL.out.mono ?_
    rintro e w1 ⟨hT, hb1⟩
    obtain rfl := hT.ok
    have hfin := hb0.trans (hb1.mono hb0.size)
    clear HL e0 e1 e2 e3 hT
    go_wp2
    go_ret
    exact ⟨_, rfl, .inl ⟨rfl, rfl⟩, hfin⟩
  · rw [if_neg h0]
    have HC := Hid.mk' h0
    clear h0
    go_enter Tryz.func12, Tryz.ntmps12
    go_wp2_with fail
    refine HL.out.mono ?_
    rintro e w1 ⟨hT, hb1⟩
    obtain ⟨bk, rfl, hF⟩ := hT.bad HC.out
    have HF := Hid.mk' hF
    have hfin := hb0.trans (hb1.mono hb0.size)
    clear HL e0 e1 e2 e3 hT hF
    go_wp2
    go_ret
    exact ⟨_, rfl, .inr ⟨HC.out, HF.out.weaken (by omega) rfl⟩, hfin⟩
end Go.Proofs.YtjjoedkigjekcaaGreatDoor

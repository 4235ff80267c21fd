/-
  What is proved here: what the reference's look, its Check and the law's Right answer.
-/
import Derived.Test.YtjjoedkigjekcaaGreatDoorJ8
namespace Go.Proofs.YtjjoedkigjekcaaGreatDoor
open Go.RowKit

/-- the names of a value's members, as they lie -/
theorem names_at {w : World} {b : Option Addr} {m : List (List UInt8 × J)} (hs : ∀ x ∈ m, x.1.length + weight x.2 ≤ 4000) (h : ∀ j x, m[j]? = some x → ∃ bb ob ds, b = some ⟨bb, ob, none⟩ ∧ CellsAt w bb (ob + j * 5) (.string (strL x.1) :: ds) 5 ∧ VJ w x.2 ds) :
    ∀ j x, (m.map fun x => x.1)[j]? = some x → x.length ≤ 4000 ∧ ∃ bb ob, b = some ⟨bb, ob, none⟩ ∧ w.cell? ⟨bb, ob + j * 5, none⟩ = some (.string (strL x)) := by
  intro j x hx
  rw [List.getElem?_map] at hx
  cases e : m[j]? with
  | none => rw [e] at hx; cases hx
  | some p =>
    rw [e] at hx
    cases hx
    obtain ⟨bb, ob, ds, rfl, hc, -⟩ := h j p e
    have := hs p (List.mem_of_getElem? e)
    exact ⟨show p.1.length ≤ 4000 by omega, bb, ob, rfl, hc.2 0 _ rfl⟩
theorem seqF_at {l : List J} {j : Nat} {t : J} {lv n : Nat} (h : l[j]? = some t) : seqF ((l.drop j).map (lookM gd)) lv n = if (lookM gd t lv n).2 = 0 then seqF ((l.drop (j + 1)).map (lookM gd)) lv (lookM gd t lv n).1 else lookM gd t lv n := by
  rw [drop_get h]; rfl
theorem seqM_at {m : List (List UInt8 × J)} {j : Nat} {x : List UInt8 × J} {lv n : Nat} (h : m[j]? = some x) : seqF ((m.drop j).map fun x => lookM gd x.2) lv n = if (lookM gd x.2 lv n).2 = 0 then seqF ((m.drop (j + 1)).map fun x => lookM gd x.2) lv (lookM gd x.2 lv n).1 else lookM gd x.2 lv n := by
  rw [drop_get h]; rfl
theorem oneM_le (gd : List UInt8 → Bool) (lv : Nat) (k : Int) (s : List UInt8) (ll : Nat) (ns : List (List UInt8)) : oneM gd lv k s ll ns ≤ 17 := by
  unfold oneM
  repeat' split
  all_goals omega
theorem seqF_code {l : List (Nat → Nat → Nat × Nat)} (h : ∀ f ∈ l, ∀ lv n, (f lv n).2 ≤ 17) : ∀ lv n, (seqF l lv n).2 ≤ 17 := by
  induction l with
  | nil => intro lv n; simp [seqF]
  | cons f l ih =>
    intro lv n
    rw [seqF]
    split
    · exact ih (fun g hg => h g (by simp [hg])) _ _
    · exact h f (by simp) _ _
theorem look_code : ∀ t : J, ∀ lv n, (lookM gd t lv n).2 ≤ 17 := by
  refine J.ind ?_
  intro k s l m ihl ihm lv n
  rw [lookM_mk, lookF]
  have h1 := seqF_code (l := l.map (lookM gd)) (by intro f hf; obtain ⟨t, ht, rfl⟩ := List.mem_map.1 hf; exact ihl t ht)
  have h2 := seqF_code (l := (m.map fun x => (x.1, lookM gd x.2)).map fun x => x.2) (by
    intro f hf
    obtain ⟨y, hy, rfl⟩ := List.mem_map.1 hf
    obtain ⟨x, hx, rfl⟩ := List.mem_map.1 hy
    exact ihm x hx)
  split
  · split
    · exact h2 _ _
    · exact h1 _ _
  · exact oneM_le ..
set_option maxRecDepth 20000 in
set_option maxHeartbeats 4000000 in
theorem look_any : ∀ t : J, weight t ≤ 4000 → ∀ (cs : List Value) (w : World) (lv n : Nat), lv ≤ 33 → n + weight t ≤ 100000 → VJ w t cs →
    Calls Tryz.prog 32 #[.agg cs.toArray, .int .i64 lv, .int .i64 n] w fun e w' => e = .returned (.tuple #[.int .i64 ((lookM gd t lv n).1 : Nat), .int .i64 ((lookM gd t lv n).2 : Nat)]) ∧ Below w.heap.size w w' := by
  refine J.ind ?_
  intro k s l m ihl ihm hwt cs w lv n hlv hnw hv
  obtain ⟨a, ca, b, cb, rfl, hL, hM⟩ := (VJ_mk ..).1 hv
  obtain ⟨hs1, hs2, hs3, hs4, hs5⟩ := weight_parts hwt
  obtain ⟨W0, hW0, hsz, hb0, e0, e1, e2, e3⟩ := val_box w (.int .i64 k) (.string (strL s)) (.slice a l.length ca) (.slice b m.length cb)
  have HONE : Hid (Calls Tryz.prog 51 #[.agg #[.int .i64 k, .string (strL s), .slice a l.length ca, .slice b m.length cb], .int .i64 lv] W0 fun e w' => e = .returned (.int .i64 (oneM gd lv k s l.length (m.map fun x => x.1))) ∧ Below W0.heap.size W0 w') :=
    Hid.mk' (one_any k s (strL s) rfl a b l.length m.length ca cb (m.map fun x => x.1) (by simp) lv W0 (by omega) hs1 hs3 (names_at hs5 (fun j x hj => by
      obtain ⟨bb, ob, ds, h1, h2, h3⟩ := hM j x hj
      exact ⟨bb, ob, ds, h1, h2.below hb0, h3.below hb0⟩)))
  generalize strL s = S at *
  have HLL : Hid (∀ (j : Nat) (t : J), l[j]? = some t → ∃ ba oa c0 c1 c2 c3, a = some ⟨ba, oa, none⟩ ∧ ∀ W, Below w.heap.size w W → (W.cell? ⟨ba, oa + j * 4, none⟩ = some c0 ∧ W.cell? ⟨ba, oa + j * 4 + 1, none⟩ = some c1 ∧ W.cell? ⟨ba, oa + j * 4 + 2, none⟩ = some c2 ∧ W.cell? ⟨ba, oa + j * 4 + 3, none⟩ = some c3) ∧ ∀ lv n : Nat, lv ≤ 33 → n + weight t ≤ 100000 → Calls Tryz.prog 32 #[.agg #[c0, c1, c2, c3], .int .i64 lv, .int .i64 n] W fun e w' => e = .returned (.tuple #[.int .i64 ((lookM gd t lv n).1 : Nat), .int .i64 ((lookM gd t lv n).2 : Nat)]) ∧ Below W.heap.size W w') := fun j t hj => by
    obtain ⟨ba, oa, c0, c1, c2, c3, e, h⟩ := elem_at hL hj
    exact ⟨ba, oa, c0, c1, c2, c3, e, fun W hb => ⟨(h W hb).1, fun lv n h1 h2 => ihl t (List.mem_of_getElem? hj) (hs4 t (List.mem_of_getElem? hj)) _ W lv n h1 h2 (h W hb).2⟩⟩
  have HMM : Hid (∀ (j : Nat) (x : List UInt8 × J), m[j]? = some x → ∃ bb ob c0 c1 c2 c3, b = some ⟨bb, ob, none⟩ ∧ ∀ W, Below w.heap.size w W → (W.cell? ⟨bb, ob + j * 5, none⟩ = some (.string (strL x.1)) ∧ W.cell? ⟨bb, ob + j * 5 + 1, none⟩ = some c0 ∧ W.cell? ⟨bb, ob + j * 5 + 2, none⟩ = some c1 ∧ W.cell? ⟨bb, ob + j * 5 + 3, none⟩ = some c2 ∧ W.cell? ⟨bb, ob + j * 5 + 4, none⟩ = some c3) ∧ ∀ lv n : Nat, lv ≤ 33 → n + weight x.2 ≤ 100000 → Calls Tryz.prog 32 #[.agg #[c0, c1, c2, c3], .int .i64 lv, .int .i64 n] W fun e w' => e = .returned (.tuple #[.int .i64 ((lookM gd x.2 lv n).1 : Nat), .int .i64 ((lookM gd x.2 lv n).2 : Nat)]) ∧ Below W.heap.size W w') := fun j x hj => by
    obtain ⟨bb, ob, c0, c1, c2, c3, e, h⟩ := memb_at hM hj
    exact ⟨bb, ob, c0, c1, c2, c3, e, fun W hb => ⟨(h W hb).1, fun lv n h1 h2 => ihm x (List.mem_of_getElem? hj) (by have := hs5 x (List.mem_of_getElem? hj); omega) _ W lv n h1 h2 (h W hb).2⟩⟩
  have HE : Hid (∀ W, Below W0.heap.size W0 W → (W.cell? ⟨w.heap.size, 2, none⟩ = some (.slice a l.length ca) ∧ W.cell? ⟨w.heap.size, 3, none⟩ = some (.slice b m.length cb)) ∧ Below w.heap.size w W) := fun W hb =>
    ⟨⟨(hb.cell (lt_of_cell e2)).trans e2, (hb.cell (lt_of_cell e3)).trans e3⟩, hb0.trans (hb.mono hb0.size)⟩
  have HT : Hid (∀ W W', Below W0.heap.size W0 W → Below W.heap.size W W' → Below W0.heap.size W0 W') := below_tr
  obtain ⟨R, hR⟩ : ∃ R, lookM gd (.mk k s l m) lv n = R := ⟨_, rfl⟩
  rw [hR]
  rw [lookM_mk, lookF, List.length_map, List.map_map, List.map_map] at hR
  have hwe := weight_mk k s l m
  rw [hwe] at hnw
  obtain ⟨c, hc⟩ : ∃ c, oneM gd lv k s l.length (m.map fun x => x.1) = c := ⟨_, rfl⟩
  have HR : Hid ((if c = 0 then (if (seqF (l.map (lookM gd)) (lv + 1) (n + 1)).2 = 0 then seqF (m.map fun x => lookM gd x.2) (lv + 1) (seqF (l.map (lookM gd)) (lv + 1) (n + 1)).1 else seqF (l.map (lookM gd)) (lv + 1) (n + 1)) else (n, c)) = R) := by
    show _ = _
    rw [← hR, ← hc]
    rfl
  have HLV : Hid (c = 0 → lv ≤ 32) := fun h => (one_shape (hc.trans h)).2.1
  rw [hc] at HONE
  have HCD := Hid.mk' look_code
  have HSZ := Hid.mk' (look_le gd)
  have HSW := Hid.mk' size_weight
  have HWS : Hid (∀ (j : Nat) (t : J), l[j]? = some t → ((l.drop j).map weight).sum = weight t + ((l.drop (j + 1)).map weight).sum) := fun j t => sum_at
  have HWM : Hid (∀ (j : Nat) (x : List UInt8 × J), m[j]? = some x → ((m.drop j).map fun x => x.1.length + weight x.2).sum = x.1.length + weight x.2 + ((m.drop (j + 1)).map fun x => x.1.length + weight x.2).sum) := fun j x => sum_at (f := fun x : List UInt8 × J => x.1.length + weight x.2)
  have hcz : c ≤ 17 := by rw [← hc]; exact oneM_le ..
  clear hR hc ihl ihm hL hM hv hwt hs4 hs5 hwe
  obtain ⟨d2, d3⟩ := (HE.out W0 (Below.refl _ _)).1
  have hstart : Below W0.heap.size W0 W0 := Below.refl _ _
  go_enter Tryz.func32, Tryz.ntmps32
  go_wp2_with fail
  refine HONE.out.mono ?_
  rintro e w1 ⟨rfl, hb1⟩
  have hz1 := HT.out _ _ hstart hb1
  have hfin1 := (HE.out _ hz1).2
  clear HONE d2 d3 e0 e1 e2 e3 hstart
  have hlt0 : (c = 0) ∨ (c ≠ 0 ∧ ((c : Int) != 0) = true) := by
    rcases Nat.eq_zero_or_pos c with h | h
    · exact .inl h
    · exact .inr ⟨by omega, by simp; omega⟩
  rcases hlt0 with h0 | ⟨h0, h0b⟩
  rotate_left
  · have hRR : R = (n, c) := HR.out.symm.trans (if_neg h0)
    subst hRR
    clear HR HLV HCD HSZ HSW HWS HWM HLL HMM
    go_wp2
    go_ret2
    exact ⟨rfl, hfin1⟩
  subst h0
  have hlv32 := HLV.out rfl
  obtain ⟨P, hP⟩ : ∃ P, seqF (l.map (lookM gd)) (lv + 1) (n + 1) = P := ⟨_, rfl⟩
  have HP : Hid (seqF ((l.drop 0).map (lookM gd)) (lv + 1) (n + 1) = P) := hP
  have HR2 : Hid ((if P.2 = 0 then seqF (m.map fun x => lookM gd x.2) (lv + 1) P.1 else P) = R) := by
    have h : (if (seqF (l.map (lookM gd)) (lv + 1) (n + 1)).2 = 0 then seqF (m.map fun x => lookM gd x.2) (lv + 1) (seqF (l.map (lookM gd)) (lv + 1) (n + 1)).1 else seqF (l.map (lookM gd)) (lv + 1) (n + 1)) = R := HR.out
    rw [hP] at h
    exact h
  have hwl : Hid (n + 1 + ((l.drop 0).map weight).sum + (m.map fun x => x.1.length + weight x.2).sum ≤ 100000) := by
    show _ ≤ _
    have : l.drop 0 = l := rfl
    rw [this]; omega
  have hw1 : IntKind.i64.wrap ((lv : Int) + 1) = ((lv + 1 : Nat) : Int) := by rw [wrap_i64 (by omega) (by omega)]; omega
  have hnz : n ≤ 100000 := by omega
  clear hP HR hnw HLV hfin1 hb1
  go_wp2
  go_loopw [2, 9] (fun x2 x9 wr => ∃ (j n : Nat), x2 = .int .i64 n ∧ x9 = .int .i64 j ∧ j ≤ l.length ∧ n ≤ 100000 ∧ Hid (seqF ((l.drop j).map (lookM gd)) (lv + 1) n = P) ∧ Hid (n + ((l.drop j).map weight).sum + (m.map fun x => x.1.length + weight x.2).sum ≤ 100000) ∧ Below W0.heap.size W0 wr) (fun _ x9 _ => l.length - (intOf x9).toNat)
  case atStart => exact ⟨0, n + 1, by go_num, rfl, Nat.zero_le _, by have := hwl.out; omega, HP, hwl, hz1⟩
  case round =>
    clear HP hwl hz1
    obtain ⟨j, n, rfl, rfl, hj, hn, HC, HW, hbr⟩ := hrel
    obtain ⟨⟨f2, f3⟩, hfin⟩ := HE.out _ hbr
    by_cases hlt : j < l.length
    · obtain ⟨t, ht⟩ := get_lt hlt
      obtain ⟨ba, oa, c0, c1, c2, c3, rfl, HX⟩ := HLL.out j t ht
      obtain ⟨⟨g0, g1, g2, g3⟩, HXc⟩ := HX _ hfin
      have hwj := HWS.out j t ht
      have hww := HW.out
      rw [hwj] at hww
      have HX1 := Hid.mk' (HXc (lv + 1) n (by omega) (by omega))
      have hcn := HC.out
      rw [seqF_at ht] at hcn
      have hsz1 := HSZ.out t (lv + 1) n
      have hsw1 := HSW.out t
      have hcd1 := HCD.out t (lv + 1) n
      generalize lookM gd t (lv + 1) n = p at *
      generalize weight t = wt at *
      obtain ⟨n2, e2⟩ := p
      simp only [] at hcn hsz1 hcd1 HX1
      by_cases he : e2 = 0
      · subst he
        have HC2 : Hid (seqF ((l.drop (j + 1)).map (lookM gd)) (lv + 1) n2 = P) := hcn
        have HW2 : Hid (n2 + ((l.drop (j + 1)).map weight).sum + (m.map fun x => x.1.length + weight x.2).sum ≤ 100000) := by show _ ≤ _; omega
        have hn2 : n2 ≤ 100000 := by omega
        clear HX HXc HLL HMM HC HW ht hcn hww hwj HWS HWM HCD HSZ HSW HR2
        go_wp2_with fail
        refine HX1.out.mono ?_
        rintro e w1 ⟨rfl, hb1⟩
        have hz1 := HT.out _ _ hbr hb1
        clear HX1 g0 g1 g2 g3 f2 f3 hfin hbr hb1
        go_wp2
        go_roundw
        case rel => exact ⟨j + 1, n2, rfl, by go_num, by omega, hn2, HC2, HW2, hz1⟩
        case measure => simp [intOf]; omega
      · have heb : ((e2 : Int) != 0) = true := by simp; omega
        have hPP : (n2, e2) = P := by rw [if_neg he] at hcn; exact hcn
        have hRR : R = (n2, e2) := by
          have := HR2.out
          rw [← hPP, if_neg he] at this
          exact this.symm
        subst hRR
        clear HX HXc HLL HMM HC HW ht hcn hww hwj HWS HWM HCD HSZ HSW HR2 hPP
        go_wp2_with fail
        refine HX1.out.mono ?_
        rintro e w1 ⟨rfl, hb1⟩
        have hz1 := (HE.out _ (HT.out _ _ hbr hb1)).2
        clear HX1 g0 g1 g2 g3 f2 f3 hfin hbr hb1
        go_wp2
        go_ret2
        exact ⟨rfl, hz1⟩
    · have hPP : (n, 0) = P := by
        have := HC.out
        rw [List.drop_eq_nil_of_le (by omega)] at this
        exact this
      have HC2 : Hid (seqF ((m.drop 0).map fun x => lookM gd x.2) (lv + 1) n = R) := by
        have := HR2.out
        rw [← hPP] at this
        exact this
      have HW2 : Hid (n + ((m.drop 0).map fun x => x.1.length + weight x.2).sum ≤ 100000) := by
        have := HW.out
        show _ ≤ _
        rw [show m.drop 0 = m from rfl]
        omega
      clear HC HW hPP HLL HWS HR2
      go_wp2
      go_loopw [2, 12] (fun x2 x9 wr => ∃ (j n : Nat), x2 = .int .i64 n ∧ x9 = .int .i64 j ∧ j ≤ m.length ∧ n ≤ 100000 ∧ Hid (seqF ((m.drop j).map fun x => lookM gd x.2) (lv + 1) n = R) ∧ Hid (n + ((m.drop j).map fun x => x.1.length + weight x.2).sum ≤ 100000) ∧ Below W0.heap.size W0 wr) (fun _ x9 _ => m.length - (intOf x9).toNat)
      case atStart => exact ⟨0, n, rfl, rfl, Nat.zero_le _, hn, HC2, HW2, hbr⟩
      case round =>
        clear HC2 HW2 hbr hfin f2 f3
        obtain ⟨j, n, rfl, rfl, hj, hn, HC, HW, hbr⟩ := hrel
        obtain ⟨⟨f2, f3⟩, hfin⟩ := HE.out _ hbr
        by_cases hlt : j < m.length
        · obtain ⟨x, ht⟩ := get_lt hlt
          obtain ⟨bb, ob, c0, c1, c2, c3, rfl, HX⟩ := HMM.out j x ht
          obtain ⟨⟨g0, g1, g2, g3, g4⟩, HXc⟩ := HX _ hfin
          have hwj := HWM.out j x ht
          have hww := HW.out
          rw [hwj] at hww
          have HX1 := Hid.mk' (HXc (lv + 1) n (by omega) (by omega))
          have hcn := HC.out
          rw [seqM_at ht] at hcn
          have hsz1 := HSZ.out x.2 (lv + 1) n
          have hsw1 := HSW.out x.2
          have hcd1 := HCD.out x.2 (lv + 1) n
          generalize lookM gd x.2 (lv + 1) n = p at *
          generalize weight x.2 = wt at *
          obtain ⟨n2, e2⟩ := p
          simp only [] at hcn hsz1 hcd1 HX1
          by_cases he : e2 = 0
          · subst he
            have HC2 : Hid (seqF ((m.drop (j + 1)).map fun x => lookM gd x.2) (lv + 1) n2 = R) := hcn
            have HW2 : Hid (n2 + ((m.drop (j + 1)).map fun x => x.1.length + weight x.2).sum ≤ 100000) := by show _ ≤ _; omega
            have hn2 : n2 ≤ 100000 := by omega
            clear HX HXc HMM HC HW ht hcn hww hwj HWM HCD HSZ HSW
            go_wp2_with fail
            refine HX1.out.mono ?_
            rintro e w1 ⟨rfl, hb1⟩
            have hz1 := HT.out _ _ hbr hb1
            clear HX1 g0 g1 g2 g3 g4 f2 f3 hfin hbr hb1
            go_wp2
            go_roundw
            case rel => exact ⟨j + 1, n2, rfl, by go_num, by omega, hn2, HC2, HW2, hz1⟩
            case measure => simp [intOf]; omega
          · have heb : ((e2 : Int) != 0) = true := by simp; omega
            have hRR : R = (n2, e2) := by rw [if_neg he] at hcn; exact hcn.symm
            subst hRR
            clear HX HXc HMM HC HW ht hcn hww hwj HWM HCD HSZ HSW
            go_wp2_with fail
            refine HX1.out.mono ?_
            rintro e w1 ⟨rfl, hb1⟩
            have hz1 := (HE.out _ (HT.out _ _ hbr hb1)).2
            clear HX1 g0 g1 g2 g3 g4 f2 f3 hfin hbr hb1
            go_wp2
            go_ret2
            exact ⟨rfl, hz1⟩
        · have hRR : R = (n, 0) := by
            have := HC.out
            rw [List.drop_eq_nil_of_le (by omega)] at this
            exact this.symm
          subst hRR
          clear HC HW HMM HWM HCD HSZ HSW
          go_wp2
          go_ret2
          exact ⟨rfl, hfin⟩
set_option maxHeartbeats 1000000 in
theorem refCheck12_any (t : J) (hwt : weight t ≤ 4000) (cs : List Value) (w : World) (hv : VJ w t cs) :
    Calls Tryz.prog 10 #[.agg cs.toArray] w fun e w' => e = .returned (.tuple #[.int .i64 ((checkM gd t).1 : Nat), .int .i64 ((checkM gd t).2 : Nat)]) ∧ Below w.heap.size w w' := by
  obtain ⟨c0, c1, c2, c3, rfl⟩ : ∃ c0 c1 c2 c3, cs = [c0, c1, c2, c3] := by
    have := hv.len
    match cs, this with
    | [c0, c1, c2, c3], _ => exact ⟨c0, c1, c2, c3, rfl⟩
  obtain ⟨W0, hW0, hsz, hb0, e0, e1, e2, e3⟩ := val_box w c0 c1 c2 c3
  have HL := Hid.mk' (look_any t hwt [c0, c1, c2, c3] W0 1 0 (by omega) (by omega) (hv.below hb0))
  unfold checkM
  generalize lookM gd t 1 0 = p at *
  obtain ⟨n, e⟩ := p
  clear hv
  simp only [] at HL ⊢
  have h0 : e = 0 ∨ (e ≠ 0 ∧ ((e : Int) == 0) = false) := by
    rcases Nat.eq_zero_or_pos e with h | h
    · exact .inl h
    · exact .inr ⟨by omega, by simp; omega⟩
  rcases h0 with rfl | ⟨h0, h0b⟩
  · rw [if_pos rfl]
    go_enter Tryz.func10, Tryz.ntmps10
    go_wp2_with fail
    refine HL.out.mono ?_
    rintro e w1 ⟨rfl, hb1⟩
    have hfin := hb0.trans (hb1.mono hb0.size)
    clear HL e0 e1 e2 e3
    go_wp2
    go_ret2
    exact ⟨rfl, hfin⟩
  · rw [if_neg h0]
    go_enter Tryz.func10, Tryz.ntmps10
    go_wp2_with fail
    refine HL.out.mono ?_
    rintro e w1 ⟨rfl, hb1⟩
    have hfin := hb0.trans (hb1.mono hb0.size)
    clear HL e0 e1 e2 e3
    go_wp2
    go_ret2
    exact ⟨rfl, hfin⟩
set_option maxHeartbeats 1000000 in
theorem right12_any (t : J) (hwt : weight t ≤ 4000) (cs : List Value) (w : World) (hv : VJ w t cs) :
    Calls Tryz.prog 15 #[.agg cs.toArray] w fun e w' => e = .returned (.bool ((checkM gd t).2 == 0)) ∧ Below w.heap.size w w' := by
  obtain ⟨c0, c1, c2, c3, rfl⟩ : ∃ c0 c1 c2 c3, cs = [c0, c1, c2, c3] := by
    have := hv.len
    match cs, this with
    | [c0, c1, c2, c3], _ => exact ⟨c0, c1, c2, c3, rfl⟩
  obtain ⟨W0, hW0, hsz, hb0, e0, e1, e2, e3⟩ := val_box w c0 c1 c2 c3
  have HL := Hid.mk' (refCheck12_any t hwt [c0, c1, c2, c3] W0 (hv.below hb0))
  generalize checkM gd t = p at *
  obtain ⟨n, e⟩ := p
  clear hv
  simp only [] at HL ⊢
  go_enter Tryz.func15, Tryz.ntmps15
  go_wp2_with fail
  refine HL.out.mono ?_
  rintro e w1 ⟨rfl, hb1⟩
  have hfin := hb0.trans (hb1.mono hb0.size)
  clear HL e0 e1 e2 e3
  go_wp2
  go_ret
  exact ⟨ret_bool (by rw [Bool.eq_iff_iff, beq_iff_eq, beq_iff_eq]; omega), hfin⟩
end Go.Proofs.YtjjoedkigjekcaaGreatDoor

/-
  What is proved here: what is wrong with a value by itself, as the reference says.
-/
import Derived.Test.YtjjoedkigjekcaaGreatDoorJ7
import Derived.Lib.SlicesS
namespace Go.Proofs.YtjjoedkigjekcaaGreatDoor
open Go.RowKit

theorem oneM_deep {gd : List UInt8 → Bool} {lv : Nat} {k : Int} {s : List UInt8} {ll : Nat} {ns : List (List UInt8)} (h : 32 < lv) : oneM gd lv k s ll ns = 9 := if_pos h
theorem oneM_kind {gd : List UInt8 → Bool} {lv : Nat} {k : Int} {s : List UInt8} {ll : Nat} {ns : List (List UInt8)} (h : ¬ 32 < lv) (h2 : k < 0 ∨ 6 < k) : oneM gd lv k s ll ns = 17 := by unfold oneM; rw [if_neg h, if_pos h2]
/-- is a value of a wrong form? -/
def badF (k : Int) (s : List UInt8) (ll mm : Nat) : Bool := decide ((k ≠ 3 ∧ k ≠ 4 ∧ s ≠ []) ∨ (k ≠ 5 ∧ 0 < ll) ∨ (k ≠ 6 ∧ 0 < mm) ∨ (k = 3 ∧ writtenM s = false))
def one4 (ns : List (List UInt8)) : Nat := if ns.Nodup then 0 else 7
def one3 (gd : List UInt8 → Bool) (ns : List (List UInt8)) : Nat := if ns.all gd = false then 1 else one4 ns
theorem oneM_form {gd : List UInt8 → Bool} {lv : Nat} {k : Int} {s : List UInt8} {ll : Nat} {ns : List (List UInt8)} (h : ¬ 32 < lv) (h2 : ¬ (k < 0 ∨ 6 < k)) :
    oneM gd lv k s ll ns = if badF k s ll ns.length = true then 5 else if (decide (k = 4) && !gd s) = true then 1 else one3 gd ns := by
  unfold oneM badF one3 one4
  rw [if_neg h, if_neg h2]
  simp only [decide_eq_true_eq, Bool.and_eq_true, Bool.not_eq_true']
theorem all_at {f : List UInt8 → Bool} {l : List (List UInt8)} {j : Nat} {x : List UInt8} (h : l[j]? = some x) : (l.drop j).all f = (f x && (l.drop (j + 1)).all f) := by rw [drop_get h]; rfl
theorem take_at {α : Type} {l : List α} {j : Nat} {x : α} (h : l[j]? = some x) : l.take (j + 1) = l.take j ++ [x] := by
  rw [List.take_add_one, h]; rfl
theorem nodup_step {l : List (List UInt8)} {j : Nat} {x : List UInt8} (h : l[j]? = some x) (hn : (l.take j).Nodup) (hx : ∀ q, q < j → l[q]? ≠ some x) : (l.take (j + 1)).Nodup := by
  rw [take_at h, List.nodup_append]
  refine ⟨hn, by simp, fun a ha b hb => ?_⟩
  obtain rfl : b = x := by simpa using hb
  rintro rfl
  obtain ⟨q, hq, e⟩ := List.mem_iff_getElem.1 ha
  rw [List.length_take] at hq
  refine hx q (by omega) ?_
  rw [List.getElem_take] at e
  rw [List.getElem?_eq_getElem (by omega), e]
theorem nodup_not {l : List (List UInt8)} {i q : Nat} {x : List UInt8} (h : l[i]? = some x) (hq : q < i) (h2 : l[q]? = some x) : ¬ l.Nodup := by
  intro hn
  have := (List.getElem?_inj (by
    obtain ⟨hi, -⟩ := List.getElem?_eq_some_iff.1 h
    omega) hn).1 (h2.trans h.symm)
  omega
set_option maxRecDepth 20000 in
set_option maxHeartbeats 8000000 in
theorem one_any (k : Int) (s : List UInt8) (S : ByteArray) (hS : strL s = S) (a b : Option Addr) (ll mm ca cb : Nat) (ns : List (List UInt8)) (hns : ns.length = mm) (lv : Nat) (w : World) (hlv : lv ≤ 100) (hs : s.length ≤ 4000) (hmm : mm ≤ 4000)
    (hN : ∀ j x, ns[j]? = some x → x.length ≤ 4000 ∧ ∃ bb ob, b = some ⟨bb, ob, none⟩ ∧ w.cell? ⟨bb, ob + j * 5, none⟩ = some (.string (strL x))) :
    Calls Tryz.prog 51 #[.agg #[.int .i64 k, .string S, .slice a ll ca, .slice b mm cb], .int .i64 lv] w fun e w' => e = .returned (.int .i64 (oneM gd lv k s ll ns)) ∧ Below w.heap.size w w' := by
  obtain ⟨W0, hW0, hsz, hb0, e0, e1, e2, e3⟩ := val_box w (.int .i64 k) (.string S) (.slice a ll ca) (.slice b mm cb)
  have HE : Hid (∀ W, Below W0.heap.size W0 W → (W.cell? ⟨w.heap.size, 0, none⟩ = some (.int .i64 k) ∧ W.cell? ⟨w.heap.size, 1, none⟩ = some (.string S) ∧ W.cell? ⟨w.heap.size, 2, none⟩ = some (.slice a ll ca) ∧ W.cell? ⟨w.heap.size, 3, none⟩ = some (.slice b mm cb)) ∧ Below w.heap.size w W) := fun W hb =>
    ⟨⟨(hb.cell (lt_of_cell e0)).trans e0, (hb.cell (lt_of_cell e1)).trans e1, (hb.cell (lt_of_cell e2)).trans e2, (hb.cell (lt_of_cell e3)).trans e3⟩, hb0.trans (hb.mono hb0.size)⟩
  have HT : Hid (∀ W W', Below W0.heap.size W0 W → Below W.heap.size W W' → Below W0.heap.size W0 W') := below_tr
  have HNN : Hid (∀ (j : Nat) (x : List UInt8), ns[j]? = some x → x.length ≤ 4000 ∧ ∃ bb ob, b = some ⟨bb, ob, none⟩ ∧ ∀ W, Below w.heap.size w W → W.cell? ⟨bb, ob + j * 5, none⟩ = some (.string (strL x))) := fun j x hj => by
    obtain ⟨h1, bb, ob, h2, h3⟩ := hN j x hj
    exact ⟨h1, bb, ob, h2, fun W hb => (hb.cell (lt_of_cell h3)).trans h3⟩
  have HGD : Hid (∀ W (x : List UInt8), x.length ≤ 4000 → _) := fun W x hx => good_any x W hx
  have HWR : Hid (∀ W, Calls Tryz.prog 21 #[.string S] W fun e w' => e = .returned (.bool (writtenM s)) ∧ W = w') := fun W => by rw [← hS]; exact written_any s W (by omega)
  have HGS : Hid (∀ W, Calls Tryz.prog 69 #[.string S] W fun e w' => e = .returned (.bool (gd s)) ∧ Below W.heap.size W w') := fun W => by rw [← hS]; exact good_any s W hs
  have HEM := Hid.mk' (empty_cases s)
  rw [hS] at HEM
  have HSE : Hid (s = [] → S = ⟨#[]⟩) := fun h => by rw [← hS, h]; rfl
  obtain ⟨R, hR⟩ : ∃ R, oneM gd lv k s ll ns = R := ⟨_, rfl⟩
  rw [hR]
  have HNS := Hid.mk' hns
  obtain ⟨d0, d1, d2, d3⟩ := (HE.out W0 (Below.refl _ _)).1
  have hstart : Below W0.heap.size W0 W0 := Below.refl _ _
  by_cases h1 : 32 < lv
  · have hR9 : R = 9 := hR.symm.trans (oneM_deep h1)
    subst hR9
    clear hR HNS HSE HEM HGS HWR HGD HNN hN HT
    go_enter Tryz.func51, Tryz.ntmps51
    go_wp2
    go_ret
    exact ⟨rfl, hb0⟩
  by_cases h2 : k < 0 ∨ 6 < k
  · have hR9 : R = 17 := hR.symm.trans (oneM_kind h1 h2)
    subst hR9
    clear hR HNS HSE HEM HGS HWR HGD HNN hN HT
    rcases h2 with h2 | h2
    all_goals
      go_enter Tryz.func51, Tryz.ntmps51
      go_wp2
      go_ret
      exact ⟨rfl, hb0⟩
  have HR : Hid (R = if badF k s ll mm = true then 5 else if (decide (k = 4) && !gd s) = true then 1 else one3 gd ns) := by
    show _ = _
    rw [← hR, oneM_form h1 h2, HNS.out]
  clear hR
  have hkk : 0 ≤ k ∧ k ≤ 6 := by omega
  clear h2 hN
  obtain ⟨bad, hbad⟩ : ∃ bad, badF k s ll mm = bad := ⟨_, rfl⟩
  have HB := Hid.mk' hbad
  rw [hbad] at HR
  clear hbad
  go_enter Tryz.func51, Tryz.ntmps51
  go_upto_region 5 with fail
  go_cut [0, 63] from 8 to 62 (fun _ x wx => x = .bool bad ∧ W0 = wx)
  case first =>
    have HBB : Hid (∀ z : Bool, z = badF k s ll mm → Value.bool z = .bool bad) := fun z hz => by rw [hz, HB.out]
    clear HR HGS HGD HNN HT HE HB HNS
    have hll0 : (ll = 0 ∧ decide ((ll : Int) > 0) = false) ∨ (0 < ll ∧ decide ((ll : Int) > 0) = true) := by
      rcases Nat.eq_zero_or_pos ll with h | h
      · exact .inl ⟨h, by simp; omega⟩
      · exact .inr ⟨h, by simp; omega⟩
    have hmm0 : (mm = 0 ∧ decide ((mm : Int) > 0) = false) ∨ (0 < mm ∧ decide ((mm : Int) > 0) = true) := by
      rcases Nat.eq_zero_or_pos mm with h | h
      · exact .inl ⟨h, by simp; omega⟩
      · exact .inr ⟨h, by simp; omega⟩
    rcases kinds hkk with rfl | rfl | rfl | rfl | rfl | rfl | rfl
    · rcases HEM.out with hse | ⟨hse, hse2⟩
      · obtain rfl := HSE.out hse
        rcases hll0 with ⟨hl, hl2⟩ | ⟨hl, hl2⟩
        · rcases hmm0 with ⟨hm, hm2⟩ | ⟨hm, hm2⟩
          · go_wp2
            go_meet
            exact ⟨HBB.out _ (by simp [badF, hse, hl, hm]), rfl⟩
          · go_wp2
            go_meet
            exact ⟨HBB.out _ (by simp [badF, hse, hl, hm]), rfl⟩
        · go_wp2
          go_meet
          exact ⟨HBB.out _ (by simp [badF, hse, hl]), rfl⟩
      · go_wp2
        go_meet
        exact ⟨HBB.out _ (by simp [badF, hse]), rfl⟩
    · rcases HEM.out with hse | ⟨hse, hse2⟩
      · obtain rfl := HSE.out hse
        rcases hll0 with ⟨hl, hl2⟩ | ⟨hl, hl2⟩
        · rcases hmm0 with ⟨hm, hm2⟩ | ⟨hm, hm2⟩
          · go_wp2
            go_meet
            exact ⟨HBB.out _ (by simp [badF, hse, hl, hm]), rfl⟩
          · go_wp2
            go_meet
            exact ⟨HBB.out _ (by simp [badF, hse, hl, hm]), rfl⟩
        · go_wp2
          go_meet
          exact ⟨HBB.out _ (by simp [badF, hse, hl]), rfl⟩
      · go_wp2
        go_meet
        exact ⟨HBB.out _ (by simp [badF, hse]), rfl⟩
    · rcases HEM.out with hse | ⟨hse, hse2⟩
      · obtain rfl := HSE.out hse
        rcases hll0 with ⟨hl, hl2⟩ | ⟨hl, hl2⟩
        · rcases hmm0 with ⟨hm, hm2⟩ | ⟨hm, hm2⟩
          · go_wp2
            go_meet
            exact ⟨HBB.out _ (by simp [badF, hse, hl, hm]), rfl⟩
          · go_wp2
            go_meet
            exact ⟨HBB.out _ (by simp [badF, hse, hl, hm]), rfl⟩
        · go_wp2
          go_meet
          exact ⟨HBB.out _ (by simp [badF, hse, hl]), rfl⟩
      · go_wp2
        go_meet
        exact ⟨HBB.out _ (by simp [badF, hse]), rfl⟩
    · rcases hll0 with ⟨hl, hl2⟩ | ⟨hl, hl2⟩
      · rcases hmm0 with ⟨hm, hm2⟩ | ⟨hm, hm2⟩
        · cases hw : writtenM s
          · simp only [hw] at HWR
            go_wp2_with fail
            refine (HWR.out _).mono ?_
            rintro e w1 ⟨rfl, rfl⟩
            go_wp2
            go_meet
            exact ⟨HBB.out _ (by simp [badF, hl, hm, hw]), rfl⟩
          · simp only [hw] at HWR
            go_wp2_with fail
            refine (HWR.out _).mono ?_
            rintro e w1 ⟨rfl, rfl⟩
            go_wp2
            go_meet
            exact ⟨HBB.out _ (by simp [badF, hl, hm, hw]), rfl⟩
        · go_wp2
          go_meet
          exact ⟨HBB.out _ (by simp [badF, hl, hm]), rfl⟩
      · go_wp2
        go_meet
        exact ⟨HBB.out _ (by simp [badF, hl]), rfl⟩
    · rcases hll0 with ⟨hl, hl2⟩ | ⟨hl, hl2⟩
      · rcases hmm0 with ⟨hm, hm2⟩ | ⟨hm, hm2⟩
        · go_wp2
          go_meet
          exact ⟨HBB.out _ (by simp [badF, hl, hm]), rfl⟩
        · go_wp2
          go_meet
          exact ⟨HBB.out _ (by simp [badF, hl, hm]), rfl⟩
      · go_wp2
        go_meet
        exact ⟨HBB.out _ (by simp [badF, hl]), rfl⟩
    · rcases HEM.out with hse | ⟨hse, hse2⟩
      · obtain rfl := HSE.out hse
        rcases hmm0 with ⟨hx, hx2⟩ | ⟨hx, hx2⟩
        · go_wp2
          go_meet
          exact ⟨HBB.out _ (by simp [badF, hse, hx]), rfl⟩
        · go_wp2
          go_meet
          exact ⟨HBB.out _ (by simp [badF, hse, hx]), rfl⟩
      · go_wp2
        go_meet
        exact ⟨HBB.out _ (by simp [badF, hse]), rfl⟩
    · rcases HEM.out with hse | ⟨hse, hse2⟩
      · obtain rfl := HSE.out hse
        rcases hll0 with ⟨hx, hx2⟩ | ⟨hx, hx2⟩
        · go_wp2
          go_meet
          exact ⟨HBB.out _ (by simp [badF, hse, hx]), rfl⟩
        · go_wp2
          go_meet
          exact ⟨HBB.out _ (by simp [badF, hse, hx]), rfl⟩
      · go_wp2
        go_meet
        exact ⟨HBB.out _ (by simp [badF, hse]), rfl⟩
  case rest =>
    obtain ⟨rfl, rfl⟩ := hcut
    cases bad
    rotate_left
    · have hR9 : R = 5 := HR.out.trans (if_pos rfl)
      subst hR9
      clear HR HNS HSE HEM HGS HWR HGD HNN HT HB
      go_wp2
      go_ret
      exact ⟨rfl, hb0⟩
    have HR2 : Hid (R = if (decide (k = 4) && !gd s) = true then 1 else one3 gd ns) := HR.out.trans (if_neg (by decide))
    clear HR HB HSE HEM HWR
    obtain ⟨b2, hb2⟩ : ∃ b2, (decide (k = 4) && !gd s) = b2 := ⟨_, rfl⟩
    have HB2 := Hid.mk' hb2
    rw [hb2] at HR2
    clear hb2
    go_upto_region 7 with fail
    go_cut [0, 72] from 8 to 71 (fun _ x wx => x = .bool b2 ∧ Below W0.heap.size W0 wx)
    case first =>
      have HBB : Hid (∀ z : Bool, z = (decide (k = 4) && !gd s) → Value.bool z = .bool b2) := fun z hz => by rw [hz, HB2.out]
      clear HR2 HB2 HNS HGD HNN HE
      by_cases h4 : k = 4
      · have h4b : (k == 4) = true := by simp [h4]
        cases hg : gd s
        all_goals
          simp only [hg] at HGS
          have HZ := Hid.mk' (HBB.out (!(gd s)) (by simp [h4]))
          rw [hg] at HZ
          clear HBB h4
          go_wp2_with fail
          refine (HGS.out _).mono ?_
          rintro e w1 ⟨rfl, hb1⟩
          clear HGS
          have hz1 := HT.out _ _ hstart hb1
          go_wp2
          go_meet
          exact ⟨HZ.out, hz1⟩
      · have h4b : (k == 4) = false := by simp [h4]
        have HZ := Hid.mk' (HBB.out false (by simp [h4]))
        clear HBB h4 HGS
        go_wp2
        go_meet
        exact ⟨HZ.out, hstart⟩
    case rest =>
      obtain ⟨rfl, hb3⟩ := hcut
      clear hstart
      cases b2
      rotate_left
      · have hR9 : R = 1 := HR2.out.trans (if_pos rfl)
        have hfin := (HE.out _ hb3).2
        subst hR9
        clear HR2 HNS HGS HGD HNN HT HB2
        go_wp2
        go_ret
        exact ⟨rfl, hfin⟩
      have HR3 : Hid (R = if (ns.drop 0).all gd = false then 1 else one4 ns) := HR2.out.trans (if_neg (by decide))
      clear HR2 HB2 HGS
      go_wp2
      go_loopw [5] (fun x5 wr => ∃ (j : Nat), x5 = .int .i64 j ∧ j ≤ mm ∧ Hid (R = if (ns.drop j).all gd = false then 1 else one4 ns) ∧ Below W0.heap.size W0 wr) (fun x5 _ => mm - (intOf x5).toNat)
      case atStart => exact ⟨0, rfl, Nat.zero_le _, HR3, hb3⟩
      case round =>
        clear HR3 hb3
        obtain ⟨j, rfl, hj, HC, hbr⟩ := hrel
        obtain ⟨⟨f0, f1, f2, f3⟩, hfin⟩ := HE.out _ hbr
        by_cases hlt : j < mm
        · obtain ⟨x, hx⟩ := get_lt (l := ns) (j := j) (by rw [HNS.out]; exact hlt)
          obtain ⟨hxl, bb, ob, rfl, HX⟩ := HNN.out j x hx
          have g0 := HX _ hfin
          have HGX := Hid.mk' (HGD.out wr x hxl)
          have hca := HC.out
          rw [all_at hx] at hca
          generalize strL x = X at *
          cases hg : gd x
          · have hR9 : R = 1 := by rw [hca, hg]; rfl
            rw [hg] at HGX
            subst hR9
            clear HC HGD HNN hca HX hx
            go_wp2_with fail
            refine HGX.out.mono ?_
            rintro e w1 ⟨rfl, hb1⟩
            have hz1 := HT.out _ _ hbr hb1
            have hfin1 := (HE.out _ hz1).2
            clear HGX
            go_wp2
            go_ret
            exact ⟨rfl, hfin1⟩
          · have HC2 : Hid (R = if (ns.drop (j + 1)).all gd = false then 1 else one4 ns) := by
              show _ = _
              rw [hca, hg]; rfl
            rw [hg] at HGX
            clear HC HGD HNN hca HX hx
            go_wp2_with fail
            refine HGX.out.mono ?_
            rintro e w1 ⟨rfl, hb1⟩
            have hz1 := HT.out _ _ hbr hb1
            clear HGX g0 f0 f1 f2 f3 hfin hb1 hbr
            go_wp2
            go_roundw
            case rel => exact ⟨j + 1, by go_num, by omega, HC2, hz1⟩
            case measure => simp [intOf]; omega
        · have hRn : Hid (R = one4 ns) := by
            show _ = _
            rw [HC.out, List.drop_eq_nil_of_le (by rw [HNS.out]; omega)]; rfl
          clear HC HGD
          have HND : Hid ((ns.take 0).Nodup) := Hid.mk' (by simp)
          go_wp2
          go_loopw [6] (fun x6 wr => ∃ (i : Nat), x6 = .int .i64 i ∧ i ≤ mm ∧ Hid ((ns.take i).Nodup) ∧ Below W0.heap.size W0 wr) (fun x6 _ => mm - (intOf x6).toNat)
          case atStart => exact ⟨0, rfl, Nat.zero_le _, HND, hbr⟩
          case round =>
            clear HND hbr hfin f0 f1 f2 f3
            obtain ⟨i, rfl, hi, HND, hbr⟩ := hrel
            obtain ⟨⟨f0, f1, f2, f3⟩, hfin⟩ := HE.out _ hbr
            by_cases hlt2 : i < mm
            · obtain ⟨x, hx⟩ := get_lt (l := ns) (j := i) (by rw [HNS.out]; exact hlt2)
              obtain ⟨hxl, bb, ob, rfl, HX⟩ := HNN.out i x hx
              have HXX := Hid.mk' HX
              have Hx := Hid.mk' hx
              have HQ0 : Hid (∀ z : Nat, z < 0 → ns[z]? ≠ some x) := fun z hz => by omega
              clear HX hx
              go_wp2
              go_loopw [7] (fun x7 wr => ∃ (q : Nat), x7 = .int .i64 q ∧ q ≤ i ∧ Hid (∀ z : Nat, z < q → ns[z]? ≠ some x) ∧ Below W0.heap.size W0 wr) (fun x7 _ => i - (intOf x7).toNat)
              case atStart => exact ⟨0, rfl, Nat.zero_le _, HQ0, hbr⟩
              case round =>
                clear HQ0 hbr hfin f0 f1 f2 f3
                obtain ⟨q, rfl, hq, HQ, hbr⟩ := hrel
                obtain ⟨⟨f0, f1, f2, f3⟩, hfin⟩ := HE.out _ hbr
                by_cases hlt3 : q < i
                · obtain ⟨y, hy⟩ := get_lt (l := ns) (j := q) (by rw [HNS.out]; omega)
                  obtain ⟨hyl, bb2, ob2, hbb, HY⟩ := HNN.out q y hy
                  obtain ⟨rfl, rfl⟩ : bb = bb2 ∧ ob = ob2 := by simpa using hbb
                  have g0 := HXX.out _ hfin
                  have g1 := HY _ hfin
                  have hqm : q < mm := by omega
                  have hyx := Lib.bytes_beq_iff (strL x) (strL y)
                  rw [strL_inj] at hyx
                  by_cases hxy : x = y
                  · have hR9 : R = 7 := by
                      rw [hRn.out]
                      exact if_neg (nodup_not Hx.out hlt3 (by rw [hxy]; exact hy))
                    have ht := hyx.2 hxy
                    subst hR9
                    generalize strL x = X at *
                    generalize strL y = Y at *
                    clear HNN HXX HY Hx hy HQ HND hRn hyx hxy
                    go_wp2
                    go_region
                    have hfind := hfin.drew
                    go_wp2
                    go_ret
                    exact ⟨rfl, hfind⟩
                  · have ht : ((strL x).toList == (strL y).toList) = false := by
                      cases e : (strL x).toList == (strL y).toList with
                      | false => rfl
                      | true => exact absurd (hyx.1 e) hxy
                    have HQ2 : Hid (∀ z : Nat, z < q + 1 → ns[z]? ≠ some x) := fun z hz => by
                      rcases Nat.lt_or_ge z q with g | g
                      · exact HQ.out z g
                      · obtain rfl : z = q := by omega
                        rw [hy]
                        exact fun e => hxy (Option.some.inj e).symm
                    generalize strL x = X at *
                    generalize strL y = Y at *
                    clear HNN HXX HY Hx hy HQ HND hRn hyx hxy
                    go_wp2
                    go_region
                    have hbrd := hbr.drew
                    clear hbr f0 f1 f2 f3 g0 g1
                    go_wp2
                    go_roundw
                    case rel => exact ⟨q + 1, by go_num, by omega, HQ2, hbrd⟩
                    case measure => simp [intOf]; omega
                · have HN2 : Hid ((ns.take (i + 1)).Nodup) := nodup_step Hx.out HND.out (fun z hz => HQ.out z (by omega))
                  clear HQ HND HNN HXX
                  go_wp2
                  go_roundw
                  case rel => exact ⟨i + 1, by go_num, by omega, HN2, hbr⟩
                  case measure => simp [intOf]; omega
            · have hR9 : R = 0 := by
                have h := HND.out
                rw [List.take_of_length_le (by rw [HNS.out]; omega)] at h
                rw [hRn.out]
                exact if_pos h
              subst hR9
              clear HND HNN hRn
              go_wp2
              go_ret
              exact ⟨rfl, hfin⟩
end Go.Proofs.YtjjoedkigjekcaaGreatDoor

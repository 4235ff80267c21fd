/-
  What is proved here: what utf.Valid answers at every text; slices.IndexFunc and ContainsFunc at members; what jsonval.isWellFormed answers.
-/
import Derived.Test.YtjjoedkigjekcaaGreatDoorKM
import Derived.Test.YtjjoedkigjekcaaGreatDoorK0
import Derived.Test.YtjjoedkigjekcaaGreatDoorMW
import Derived.Deep.RegionHeld3
import Derived.Shelf.RegionOpen
namespace Go.Proofs.YtjjoedkigjekcaaGreatDoor
open Go.RowKit Go.Shelf

set_option maxHeartbeats 1000000 in
theorem valid_any (s : List UInt8) (w : World) (p : Nat → Addr) (hg : Gl p w) (hs : s.length ≤ 2147483648) :
    Calls Tryz.prog 82 #[.string (strL s)] w fun e w' => e = .returned (.bool (gd s)) ∧ Below w.heap.size w w' := by
  have hdd : gd s = ((Utf.dec (strL s).data.toList 0).2.2 == 0) := rfl
  have hb0 := Utf.dec_both (strL s).data.toList 0
  obtain ⟨rs, k, c, hx⟩ : ∃ rs k c, Utf.dec (strL s).data.toList 0 = (rs, k, c) := ⟨_, _, _, rfl⟩
  rw [hx] at hdd hb0
  by_cases hc : c = 0
  · subst hc
    obtain rfl : k = 0 := hb0.1 rfl
    have HD := Hid.mk' (decode_ok (strL s) w p hs hg rs hx)
    rw [hdd]
    generalize strL s = S at *
    clear hdd hx hb0
    go_enter Tryz.func82, Tryz.ntmps82
    go_wp2_with fail
    refine HD.out.mono ?_
    rintro e w1 ⟨v, rfl, -, hb1⟩
    go_wp2
    go_ret
    exact ⟨rfl, hb1⟩
  · obtain rfl : rs = [] := hb0.2 hc
    have HD := Hid.mk' (decode_err (strL s) w p hs hg k c hx hc)
    have hcf : (c == 0) = false := by simpa using hc
    rw [hdd]
    simp only [hcf]
    generalize strL s = S at *
    clear hdd hx hb0 hcf hc
    go_enter Tryz.func82, Tryz.ntmps82
    go_wp2_with fail
    refine HD.out.mono ?_
    rintro e w1 ⟨b, rfl, -, hb1⟩
    go_wp2
    go_ret
    exact ⟨rfl, hb1⟩
set_option maxHeartbeats 1000000 in
theorem wf1_any (x : List UInt8) (c0 c1 c2 c3 : Value) (w : World) (p : Nat → Addr) (hg : Gl p w) (hx : x.length ≤ 4000) :
    Calls Tryz.prog 84 #[.agg #[.string (strL x), c0, c1, c2, c3]] w fun e w' => e = .returned (.bool (!gd x)) ∧ Below w.heap.size w w' := by
  have hb0 : Below w.heap.size w (w.alloc (.cells #[.string (strL x), c0, c1, c2, c3] 43)) := (Below.refl _ w).alloc (Nat.le_refl _) _
  have HV := Hid.mk' (valid_any x _ p (hg.below hb0) (by omega))
  generalize strL x = X at *
  generalize gd x = z at *
  go_enter Tryz.func84, Tryz.ntmps84
  go_wp2_with fail
  refine HV.out.mono ?_
  rintro e w1 ⟨rfl, hb1⟩
  have hfin := hb0.trans (hb1.mono hb0.size)
  clear HV
  go_wp2
  go_ret
  exact ⟨rfl, hfin⟩
theorem enters_wf : ∀ args w, (callFunc 84 args).run Tryz.prog w = .ok (.enter 84 args) w := enters_of Tryz.func84 (by kernel_rfl) rfl
/-- members as they lie -/
def MemAt (w : World) (b : Option Addr) (m : List (List UInt8 × J)) : Prop := ∀ j x, m[j]? = some x → ∃ bb ob ds, b = some ⟨bb, ob, none⟩ ∧ CellsAt w bb (ob + j * 5) (.string (strL x.1) :: ds) 5 ∧ VJ w x.2 ds
theorem MemAt.below {w w' : World} {b : Option Addr} {m : List (List UInt8 × J)} (h : MemAt w b m) (hb : Below w.heap.size w w') : MemAt w' b m := fun j x hj => by
  obtain ⟨bb, ob, ds, e, h1, h2⟩ := h j x hj
  exact ⟨bb, ob, ds, e, h1.below hb, h2.below hb⟩
theorem all_take {m : List (List UInt8 × J)} {j : Nat} {x : List UInt8 × J} (h : m[j]? = some x) (ha : ((m.take j).map fun x => x.1).all gd = true) : ((m.take (j + 1)).map fun x => x.1).all gd = gd x.1 := by
  rw [List.take_add_one, h]
  simp only [Option.toList_some, List.map_append, List.all_append, ha, Bool.true_and, List.map_cons, List.map_nil, List.all_cons, List.all_nil, Bool.and_true]
theorem all_bad {m : List (List UInt8 × J)} {j : Nat} {x : List UInt8 × J} (h : m[j]? = some x) (hb : gd x.1 = false) : (m.map fun x => x.1).all gd = false := by
  rw [List.all_eq_false]
  exact ⟨x.1, List.mem_map_of_mem (f := fun x : List UInt8 × J => x.1) (List.mem_of_getElem? h), by rw [hb]; decide⟩
set_option maxRecDepth 20000 in
set_option maxHeartbeats 2000000 in
theorem indexM_any (m : List (List UInt8 × J)) (b : Option Addr) (cb : Nat) (w : World) (p : Nat → Addr) (hg : Gl p w) (hM : MemAt w b m) (hs : ∀ x ∈ m, x.1.length ≤ 4000) (hml : m.length ≤ 4000) :
    Calls Tryz.prog 104 #[.slice b m.length cb, .func (.func 84) #[] #[]] w fun e w' => (∃ i : Int, e = .returned (.int .i64 i) ∧ decide (i ≥ 0) = !((m.map fun x => x.1).all gd)) ∧ Below w.heap.size w w' := by
  have eg := enters_wf
  have HMM : Hid (∀ (j : Nat) (x : List UInt8 × J), m[j]? = some x → ∃ bb ob c0 c1 c2 c3, b = some ⟨bb, ob, none⟩ ∧ ∀ W, Below w.heap.size w W → (W.cell? ⟨bb, ob + j * 5, none⟩ = some (.string (strL x.1)) ∧ W.cell? ⟨bb, ob + j * 5 + 1, none⟩ = some c0 ∧ W.cell? ⟨bb, ob + j * 5 + 2, none⟩ = some c1 ∧ W.cell? ⟨bb, ob + j * 5 + 3, none⟩ = some c2 ∧ W.cell? ⟨bb, ob + j * 5 + 4, none⟩ = some c3) ∧ Calls Tryz.prog 84 #[.agg #[.string (strL x.1), c0, c1, c2, c3]] W fun e w' => e = .returned (.bool (!gd x.1)) ∧ Below W.heap.size W w') := fun j x hj => by
    obtain ⟨bb, ob, c0, c1, c2, c3, e, h⟩ := memb_at hM hj
    exact ⟨bb, ob, c0, c1, c2, c3, e, fun W hb => ⟨(h W hb).1, wf1_any x.1 c0 c1 c2 c3 W p (hg.below hb) (hs x (List.mem_of_getElem? hj))⟩⟩
  have HT : Hid (∀ W W', Below w.heap.size w W → Below W.heap.size W W' → Below w.heap.size w W') := below_tr
  have hst : Below w.heap.size w w := Below.refl _ _
  obtain ⟨R, hR⟩ : ∃ R, (m.map fun x => x.1).all gd = R := ⟨_, rfl⟩
  have HR := Hid.mk' hR
  rw [hR]
  clear hR hM hs hg
  go_enter Tryz.func104, Tryz.ntmps104
  go_wp2
  go_loopw [5, 8] (fun _ x wr => ∃ j : Nat, x = .int .i64 j ∧ j ≤ m.length ∧ Hid (((m.take j).map fun x => x.1).all gd = true) ∧ Below w.heap.size w wr) (fun _ x _ => m.length - (intOf x).toNat)
  case atStart => exact ⟨0, rfl, Nat.zero_le _, Hid.mk' rfl, hst⟩
  case round =>
    clear hst
    obtain ⟨j, rfl, hj, HA, hbr⟩ := hrel
    by_cases hlt : j < m.length
    · obtain ⟨x, ht⟩ := get_lt hlt
      obtain ⟨bb, ob, c0, c1, c2, c3, rfl, HX⟩ := HMM.out j x ht
      obtain ⟨⟨g0, g1, g2, g3, g4⟩, HXc⟩ := HX _ hbr
      have HX1 := Hid.mk' HXc
      have HY := Hid.mk' (all_take ht HA.out)
      have HZ : Hid (gd x.1 = false → R = false) := fun h => by rw [← HR.out]; exact all_bad ht h
      generalize strL x.1 = X at *
      generalize gd x.1 = z at *
      clear HX HXc HMM HA ht HR
      cases z with
      | true =>
        go_wp2_with (go_at_fn 84; refine HX1.out.mono ?_; rintro e w1 ⟨rfl, hb1⟩; have hz1 := HT.out _ _ hbr hb1; clear g0 g1 g2 g3 g4)
        go_roundw
        case rel => exact ⟨j + 1, by go_num, by omega, HY, hz1⟩
        case measure => simp [intOf]; omega
      | false =>
        obtain rfl := HZ.out rfl
        go_wp2_with (go_at_fn 84; refine HX1.out.mono ?_; rintro e w1 ⟨rfl, hb1⟩; have hz1 := HT.out _ _ hbr hb1; clear g0 g1 g2 g3 g4)
        go_ret
        exact ⟨⟨_, rfl, by simp⟩, hz1⟩
    · have hRR : R = true := by
        rw [← HR.out]
        have := HA.out
        rwa [List.take_of_length_le (by omega)] at this
      subst hRR
      clear HMM HA
      go_wp2
      go_ret
      exact ⟨⟨_, rfl, by simp⟩, hbr⟩
set_option maxHeartbeats 1000000 in
theorem containsM_any (m : List (List UInt8 × J)) (b : Option Addr) (cb : Nat) (w : World) (p : Nat → Addr) (hg : Gl p w) (hM : MemAt w b m) (hs : ∀ x ∈ m, x.1.length ≤ 4000) (hml : m.length ≤ 4000) :
    Calls Tryz.prog 83 #[.slice b m.length cb, .func (.func 84) #[] #[]] w fun e w' => e = .returned (.bool (!((m.map fun x => x.1).all gd))) ∧ Below w.heap.size w w' := by
  have HI := Hid.mk' (indexM_any m b cb w p hg hM hs hml)
  generalize (m.map fun x => x.1).all gd = z at *
  generalize m.length = ml at *
  clear hM
  go_enter Tryz.func83, Tryz.ntmps83
  go_wp2_with fail
  refine HI.out.mono ?_
  rintro e w1 ⟨⟨i, rfl, hi⟩, hb1⟩
  go_wp2
  go_ret
  exact ⟨rfl, hb1⟩
set_option maxRecDepth 20000 in
set_option maxHeartbeats 2000000 in
theorem isWellFormed_any (k : Int) (s : List UInt8) (a : Option Addr) (la ca : Nat) (m : List (List UInt8 × J)) (b : Option Addr) (cb : Nat) (w : World) (p : Nat → Addr) (hg : Gl p w) (hM : MemAt w b m) (hs : ∀ x ∈ m, x.1.length ≤ 4000) (hml : m.length ≤ 4000) (hsl : s.length ≤ 4000) :
    Calls Tryz.prog 73 #[.agg #[.int .i64 k, .string (strL s), .slice a la ca, .slice b m.length cb]] w fun e w' => e = .returned (.bool (gd s && (m.map fun x => x.1).all gd)) ∧ Below w.heap.size w w' := by
  obtain ⟨W0, hW0, hsz, hb0, e0, e1, e2, e3⟩ := val_box w (.int .i64 k) (.string (strL s)) (.slice a la ca) (.slice b m.length cb)
  have HV := Hid.mk' (valid_any s W0 p (hg.below hb0) (by omega))
  have HC : Hid (∀ W, Below w.heap.size w W → Calls Tryz.prog 83 #[.slice b m.length cb, .func (.func 84) #[] #[]] W fun e w' => e = .returned (.bool (!((m.map fun x => x.1).all gd))) ∧ Below W.heap.size W w') := fun W hb => containsM_any m b cb W p (hg.below hb) (hM.below hb) hs hml
  generalize (m.map fun x => x.1).all gd = z at *
  generalize m.length = ml at *
  generalize strL s = S at *
  have HE : Hid (∀ W, Below W0.heap.size W0 W → W.cell? ⟨w.heap.size, 3, none⟩ = some (.slice b ml cb) ∧ Below w.heap.size w W) := fun W hb => ⟨(hb.cell (lt_of_cell e3)).trans e3, hb0.trans (hb.mono hb0.size)⟩
  clear hM
  generalize gd s = zg at *
  cases zg with
  | false =>
    go_enter Tryz.func73, Tryz.ntmps73
    go_wp2_with fail
    refine HV.out.mono ?_
    rintro e w1 ⟨rfl, hb1⟩
    obtain ⟨-, hfin⟩ := HE.out _ hb1
    go_wp2
    go_ret
    exact ⟨rfl, hfin⟩
  | true =>
    go_enter Tryz.func73, Tryz.ntmps73
    go_wp2_with fail
    refine HV.out.mono ?_
    rintro e w1 ⟨rfl, hb1⟩
    obtain ⟨f3, hfin⟩ := HE.out _ hb1
    have HC1 := Hid.mk' (HC.out _ hfin)
    clear HV HC HE e0 e1 e2 e3
    go_wp2_with fail
    refine HC1.out.mono ?_
    rintro e w2 ⟨rfl, hb2⟩
    have hfin2 := hfin.trans (hb2.mono hfin.size)
    clear HC1
    cases z
    all_goals
      go_wp2
      go_ret
      exact ⟨rfl, hfin2⟩
end Go.Proofs.YtjjoedkigjekcaaGreatDoor

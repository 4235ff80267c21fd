/-
  What is proved here: tables (a norm, properties, and what is turned small) as a value and in a block of their own. · what classes' Script and Joins answer, slices.Contains at ints, and what the functions that contexts hands in tell. · what the functions tell that contexts hands in, and what joined, joins and passed answer. · whether contexts' Holds says that a rune's rule holds, of right tables, for each rule. · that the laws of layer 8 are awake.
-/
import Derived.Test.YtlnehhfljjeifaaDoorKL
import Derived.Test.YtlnehhfljjeifaaDoorE5
import Derived.Deep.RegionHeld3
namespace Go.Proofs.YtlnehhfljjeifaaDoor
open Go.RowKit

/-- the value that is tables -/
def TV (vr vc ve : Value) (a : Nat → Option Addr) (c : Nat → Nat) (t : Nat → List Rg) (vl : Value) : Value := .agg #[vr, vc, ve, .slice (a 0) (t 0).length (c 0), .slice (a 1) (t 1).length (c 1), .slice (a 2) (t 2).length (c 2), .slice (a 3) (t 3).length (c 3), .slice (a 4) (t 4).length (c 4), .slice (a 5) (t 5).length (c 5), .slice (a 6) (t 6).length (c 6), .slice (a 7) (t 7).length (c 7), .slice (a 8) (t 8).length (c 8), .slice (a 9) (t 9).length (c 9), .slice (a 10) (t 10).length (c 10), vl]
/-- a block that holds tables -/
structure TB (w : World) (b : Nat) (vr vc ve : Value) (a : Nat → Option Addr) (c : Nat → Nat) (t : Nat → List Rg) (vl : Value) : Prop where
  r : w.cell? ⟨b, 0, none⟩ = some vr
  k : w.cell? ⟨b, 1, none⟩ = some vc
  e : w.cell? ⟨b, 2, none⟩ = some ve
  p : ∀ i, i < 11 → w.cell? ⟨b, i + 3, none⟩ = some (.slice (a i) (t i).length (c i))
  l : w.cell? ⟨b, 14, none⟩ = some vl
theorem TB.below {w w' : World} {b B : Nat} {vr vc ve : Value} {a : Nat → Option Addr} {c : Nat → Nat} {t : Nat → List Rg} {vl : Value} (h : TB w b vr vc ve a c t vl) (hb : Below B w w') (hB : b < B) : TB w' b vr vc ve a c t vl :=
  ⟨(hb.cell (p := ⟨b, 0, none⟩) hB).trans h.r, (hb.cell (p := ⟨b, 1, none⟩) hB).trans h.k, (hb.cell (p := ⟨b, 2, none⟩) hB).trans h.e, fun i hi => (hb.cell (p := ⟨b, i + 3, none⟩) hB).trans (h.p i hi), (hb.cell (p := ⟨b, 14, none⟩) hB).trans h.l⟩
/-- a block of tables is laid -/
theorem tab_box (w : World) (vr vc ve : Value) (a : Nat → Option Addr) (c : Nat → Nat) (t : Nat → List Rg) (vl : Value) : ∃ W0, w.alloc (.cells #[vr, vc, ve, .slice (a 0) (t 0).length (c 0), .slice (a 1) (t 1).length (c 1), .slice (a 2) (t 2).length (c 2), .slice (a 3) (t 3).length (c 3), .slice (a 4) (t 4).length (c 4), .slice (a 5) (t 5).length (c 5), .slice (a 6) (t 6).length (c 6), .slice (a 7) (t 7).length (c 7), .slice (a 8) (t 8).length (c 8), .slice (a 9) (t 9).length (c 9), .slice (a 10) (t 10).length (c 10), vl] 31) = W0 ∧ W0.heap.size = w.heap.size + 1 ∧ Below w.heap.size w W0 ∧ TB W0 w.heap.size vr vc ve a c t vl :=
  ⟨_, rfl, by rw [World.size_alloc], (Below.refl _ w).alloc (Nat.le_refl _) _, by rw [World.cell?_alloc_new]; rfl, by rw [World.cell?_alloc_new]; rfl, by rw [World.cell?_alloc_new]; rfl, fun i hi => by
    rcases (by omega : i = 0 ∨ i = 1 ∨ i = 2 ∨ i = 3 ∨ i = 4 ∨ i = 5 ∨ i = 6 ∨ i = 7 ∨ i = 8 ∨ i = 9 ∨ i = 10) with rfl | rfl | rfl | rfl | rfl | rfl | rfl | rfl | rfl | rfl | rfl <;> rw [World.cell?_alloc_new] <;> rfl, by rw [World.cell?_alloc_new]; rfl⟩
end Go.Proofs.YtlnehhfljjeifaaDoor
namespace Go.Proofs.YtlnehhfljjeifaaDoor
open Go.RowKit Go.Shelf

set_option maxRecDepth 20000 in
set_option maxHeartbeats 2000000 in
theorem script_any (a : Nat → Option Addr) (c : Nat → Nat) (t : Nat → List Rg) (r : Int) (w : World) (hT : PT w a c t) (ho : ∀ i, i < 11 → Ok (t i)) :
    Calls Tryd.prog 32 #[PV a c t, .int .i32 r] w fun e w' => e = .returned (.int .i64 (valM (t 8) r)) ∧ Below w.heap.size w w' := by
  unfold PV
  obtain ⟨W0, hW0, hsz0, hb0, hp⟩ := prop_box w a c t
  have e0 : W0.cell? ⟨w.heap.size, 0, none⟩ = some (.slice (a 0) (t 0).length (c 0)) := hp 0 (by omega)
  have e1 : W0.cell? ⟨w.heap.size, 1, none⟩ = some (.slice (a 1) (t 1).length (c 1)) := hp 1 (by omega)
  have e2 : W0.cell? ⟨w.heap.size, 2, none⟩ = some (.slice (a 2) (t 2).length (c 2)) := hp 2 (by omega)
  have e3 : W0.cell? ⟨w.heap.size, 3, none⟩ = some (.slice (a 3) (t 3).length (c 3)) := hp 3 (by omega)
  have e4 : W0.cell? ⟨w.heap.size, 4, none⟩ = some (.slice (a 4) (t 4).length (c 4)) := hp 4 (by omega)
  have e5 : W0.cell? ⟨w.heap.size, 5, none⟩ = some (.slice (a 5) (t 5).length (c 5)) := hp 5 (by omega)
  have e6 : W0.cell? ⟨w.heap.size, 6, none⟩ = some (.slice (a 6) (t 6).length (c 6)) := hp 6 (by omega)
  have e7 : W0.cell? ⟨w.heap.size, 7, none⟩ = some (.slice (a 7) (t 7).length (c 7)) := hp 7 (by omega)
  have e8 : W0.cell? ⟨w.heap.size, 8, none⟩ = some (.slice (a 8) (t 8).length (c 8)) := hp 8 (by omega)
  have e9 : W0.cell? ⟨w.heap.size, 9, none⟩ = some (.slice (a 9) (t 9).length (c 9)) := hp 9 (by omega)
  have e10 : W0.cell? ⟨w.heap.size, 10, none⟩ = some (.slice (a 10) (t 10).length (c 10)) := hp 10 (by omega)
  have HV := Hid.mk' (value_any (.slice (a 8) (t 8).length (c 8)) (t 8) r W0 ((hT 8 (by omega)).below hb0) (ho 8 (by omega)))
  clear hp hT ho
  go_enter Tryd.func32, Tryd.ntmps32
  go_wp2_with fail
  refine HV.out.mono ?_
  rintro e w1 ⟨rfl, hb1⟩
  go_wp2
  go_ret
  exact ⟨rfl, hb0.trans (hb1.mono hb0.size)⟩
set_option maxRecDepth 20000 in
set_option maxHeartbeats 2000000 in
theorem joinsT_any (a : Nat → Option Addr) (c : Nat → Nat) (t : Nat → List Rg) (r : Int) (w : World) (hT : PT w a c t) (ho : ∀ i, i < 11 → Ok (t i)) :
    Calls Tryd.prog 48 #[PV a c t, .int .i32 r] w fun e w' => e = .returned (.int .i64 (valM (t 7) r)) ∧ Below w.heap.size w w' := by
  unfold PV
  obtain ⟨W0, hW0, hsz0, hb0, hp⟩ := prop_box w a c t
  have e0 : W0.cell? ⟨w.heap.size, 0, none⟩ = some (.slice (a 0) (t 0).length (c 0)) := hp 0 (by omega)
  have e1 : W0.cell? ⟨w.heap.size, 1, none⟩ = some (.slice (a 1) (t 1).length (c 1)) := hp 1 (by omega)
  have e2 : W0.cell? ⟨w.heap.size, 2, none⟩ = some (.slice (a 2) (t 2).length (c 2)) := hp 2 (by omega)
  have e3 : W0.cell? ⟨w.heap.size, 3, none⟩ = some (.slice (a 3) (t 3).length (c 3)) := hp 3 (by omega)
  have e4 : W0.cell? ⟨w.heap.size, 4, none⟩ = some (.slice (a 4) (t 4).length (c 4)) := hp 4 (by omega)
  have e5 : W0.cell? ⟨w.heap.size, 5, none⟩ = some (.slice (a 5) (t 5).length (c 5)) := hp 5 (by omega)
  have e6 : W0.cell? ⟨w.heap.size, 6, none⟩ = some (.slice (a 6) (t 6).length (c 6)) := hp 6 (by omega)
  have e7 : W0.cell? ⟨w.heap.size, 7, none⟩ = some (.slice (a 7) (t 7).length (c 7)) := hp 7 (by omega)
  have e8 : W0.cell? ⟨w.heap.size, 8, none⟩ = some (.slice (a 8) (t 8).length (c 8)) := hp 8 (by omega)
  have e9 : W0.cell? ⟨w.heap.size, 9, none⟩ = some (.slice (a 9) (t 9).length (c 9)) := hp 9 (by omega)
  have e10 : W0.cell? ⟨w.heap.size, 10, none⟩ = some (.slice (a 10) (t 10).length (c 10)) := hp 10 (by omega)
  have HV := Hid.mk' (value_any (.slice (a 7) (t 7).length (c 7)) (t 7) r W0 ((hT 7 (by omega)).below hb0) (ho 7 (by omega)))
  clear hp hT ho
  go_enter Tryd.func48, Tryd.ntmps48
  go_wp2_with fail
  refine HV.out.mono ?_
  rintro e w1 ⟨rfl, hb1⟩
  go_wp2
  go_ret
  exact ⟨rfl, hb0.trans (hb1.mono hb0.size)⟩
def hasI (ks : List Int) (x : Int) : Bool := ks.any fun k => x == k
theorem hasI_at {ks : List Int} {x : Int} {k : Nat} (hk : k < ks.length) (h : (x == ks.getD k 0) = true) : hasI ks x = true := by
  unfold hasI
  rw [List.any_eq_true]
  refine ⟨ks.getD k 0, ?_, h⟩
  rw [List.getD_eq_getElem?_getD, List.getElem?_eq_getElem hk]
  exact List.getElem_mem hk
theorem hasI_none {ks : List Int} {x : Int} (h : ∀ j, j < ks.length → (x == ks.getD j 0) = false) : hasI ks x = false := by
  unfold hasI
  rw [List.any_eq_false]
  intro y hy
  obtain ⟨j, hj, rfl⟩ := List.getElem_of_mem hy
  have := h j hj
  rw [List.getD_eq_getElem?_getD, List.getElem?_eq_getElem hj] at this
  simpa using this
set_option maxHeartbeats 2000000 in
theorem indexI_any (ks : List Int) (x : Int) (sb cap : Nat) (w : World) (hk : ∀ j, j < ks.length → w.cell? ⟨sb, j, none⟩ = some (.int .i64 (ks.getD j 0))) (hl : ks.length ≤ 1000) :
    Calls Tryd.prog 51 #[.slice (some ⟨sb, 0, none⟩) ks.length cap, .int .i64 x] w fun e w' => (∃ z : Int, e = .returned (.int .i64 z) ∧ decide (0 ≤ z) = hasI ks x) ∧ w = w' := by
  have HK := Hid.mk' hk
  have HA : Hid (∀ k, k < ks.length → (x == ks.getD k 0) = true → hasI ks x = true) := fun k hk h => hasI_at hk h
  have HN : Hid ((∀ j, j < ks.length → (x == ks.getD j 0) = false) → hasI ks x = false) := hasI_none
  generalize hasI ks x = R at *
  clear hk
  go_enter Tryd.func51, Tryd.ntmps51
  go_wp2
  go_loop [8] (fun y => ∃ k : Nat, k ≤ ks.length ∧ y = .int .i64 k ∧ Hid (∀ j, j < k → (x == ks.getD j 0) = false)) (fun y => ks.length - (intOf y).toNat)
  case atStart => exact ⟨0, Nat.zero_le _, rfl, fun j hj => by omega⟩
  case round =>
    obtain ⟨k, hk, rfl, hA⟩ := hrel
    by_cases hlt : k < ks.length
    · have q := HK.out k hlt
      have H1 := Hid.mk' (HA.out k hlt)
      have H2 : Hid ((x == ks.getD k 0) = false → ∀ j, j < k + 1 → (x == ks.getD j 0) = false) := fun e j hj => by
        rcases Nat.lt_or_ge j k with g | g
        · exact hA.out j g
        · obtain rfl : j = k := by omega
          exact e
      have hklz : (k : Int) < (ks.length : Int) := by omega
      generalize ks.getD k 0 = y at *
      cases hxy : (x == y)
      · have H3 := Hid.mk' (H2.out hxy)
        clear H1 H2
        go_wp2
        go_round
        case rel => exact ⟨k + 1, by omega, by go_num, H3⟩
        case measure => simp [intOf]; omega
      · have H3 := Hid.mk' (H1.out hxy)
        clear H1 H2
        go_wp2
        go_ret
        exact ⟨⟨k, rfl, by rw [H3.out]; exact decide_eq_true (by omega)⟩, rfl⟩
    · obtain rfl : k = ks.length := by omega
      have H3 := Hid.mk' (HN.out hA.out)
      go_wp2
      go_ret
      exact ⟨⟨-1, rfl, by rw [H3.out]; rfl⟩, rfl⟩
set_option maxHeartbeats 1000000 in
theorem containsI_any (ks : List Int) (x : Int) (sb cap : Nat) (w : World) (hk : ∀ j, j < ks.length → w.cell? ⟨sb, j, none⟩ = some (.int .i64 (ks.getD j 0))) (hl : ks.length ≤ 1000) :
    Calls Tryd.prog 31 #[.slice (some ⟨sb, 0, none⟩) ks.length cap, .int .i64 x] w fun e w' => e = .returned (.bool (hasI ks x)) ∧ w = w' := by
  have HI := Hid.mk' (indexI_any ks x sb cap w hk hl)
  generalize hasI ks x = R at *
  clear hk
  go_enter Tryd.func31, Tryd.ntmps31
  go_wp2_with fail
  refine HI.out.mono ?_
  rintro e w1 ⟨⟨z, rfl, hz⟩, rfl⟩
  have HZ := Hid.mk' hz
  clear hz
  go_wp2
  go_ret
  exact ⟨ret_bool HZ.out, rfl⟩
theorem isScr_has (sc : List Rg) (ks : List Int) (r : Int) : isScr sc ks r = hasI ks (valM sc r) := rfl
set_option maxRecDepth 20000 in
set_option maxHeartbeats 4000000 in
theorem scriptsF_any (bS bP sb cap : Nat) (ks : List Int) (a : Nat → Option Addr) (c : Nat → Nat) (t : Nat → List Rg) (w : World) (hs : w.cell? ⟨bS, 0, none⟩ = some (.slice (some ⟨sb, 0, none⟩) ks.length cap)) (hk : ∀ j, j < ks.length → w.cell? ⟨sb, j, none⟩ = some (.int .i64 (ks.getD j 0))) (hsb : sb < w.heap.size) (hl : ks.length ≤ 1000) (hp : PB w bP a c t) (hT : PT w a c t) (ho : ∀ i, i < 11 → Ok (t i)) :
    Tells 30 #[.pointer (some ⟨bS, 0, none⟩), .pointer (some ⟨bP, 0, none⟩)] (isScr (t 8) ks) w := by
  intro W r hbW
  have e : (#[Value.int .i32 r] ++ #[.pointer (some ⟨bS, 0, none⟩), .pointer (some ⟨bP, 0, none⟩)] : Array Value) = #[.int .i32 r, .pointer (some ⟨bS, 0, none⟩), .pointer (some ⟨bP, 0, none⟩)] := by simp
  rw [e, isScr_has]
  clear e
  have HUP : ∀ W', Below W.heap.size W W' → Below w.heap.size w W' := fun W' hb => hbW.trans (hb.mono hbW.size)
  have HSC : Hid (∀ W', Below W.heap.size W W' → _) := fun W' hb => script_any a c t r W' (hT.below (HUP W' hb)) ho
  have HCN : Hid (∀ W', Below W.heap.size W W' → ∀ x, _) := fun W' hb x => containsI_any ks x sb cap W' (fun j hj => ((HUP W' hb).cell (p := ⟨sb, j, none⟩) hsb).trans (hk j hj)) hl
  unfold PV at HSC
  have HEE : Hid (∀ W', Below W.heap.size W W' → (W'.cell? ⟨bS, 0, none⟩ = some (.slice (some ⟨sb, 0, none⟩) ks.length cap) ∧ W'.cell? ⟨bP, 0, none⟩ = some (.slice (a 0) (t 0).length (c 0)) ∧ W'.cell? ⟨bP, 1, none⟩ = some (.slice (a 1) (t 1).length (c 1)) ∧ W'.cell? ⟨bP, 2, none⟩ = some (.slice (a 2) (t 2).length (c 2)) ∧ W'.cell? ⟨bP, 3, none⟩ = some (.slice (a 3) (t 3).length (c 3)) ∧ W'.cell? ⟨bP, 4, none⟩ = some (.slice (a 4) (t 4).length (c 4)) ∧ W'.cell? ⟨bP, 5, none⟩ = some (.slice (a 5) (t 5).length (c 5)) ∧ W'.cell? ⟨bP, 6, none⟩ = some (.slice (a 6) (t 6).length (c 6)) ∧ W'.cell? ⟨bP, 7, none⟩ = some (.slice (a 7) (t 7).length (c 7)) ∧ W'.cell? ⟨bP, 8, none⟩ = some (.slice (a 8) (t 8).length (c 8)) ∧ W'.cell? ⟨bP, 9, none⟩ = some (.slice (a 9) (t 9).length (c 9)) ∧ W'.cell? ⟨bP, 10, none⟩ = some (.slice (a 10) (t 10).length (c 10)))) := fun W' hb => by
    have q := hp.below (HUP W' hb)
    exact ⟨((HUP W' hb).cell (p := ⟨bS, 0, none⟩) (lt_of_cell hs)).trans hs, q 0 (by omega), q 1 (by omega), q 2 (by omega), q 3 (by omega), q 4 (by omega), q 5 (by omega), q 6 (by omega), q 7 (by omega), q 8 (by omega), q 9 (by omega), q 10 (by omega)⟩
  have HTR : Hid (∀ W1 W2, Below W.heap.size W W1 → Below W1.heap.size W1 W2 → Below W.heap.size W W2) := fun W1 W2 h h' => h.trans (h'.mono h.size)
  have hzb : Below W.heap.size W W.drew := (Below.refl _ W).drew
  have hz := HEE.out _ hzb
  generalize valM (t 8) r = x at *
  clear hs hk hp hT ho hsb hl HUP hbW
  go_enter Tryd.func30, Tryd.ntmps30
  go_wp2
  go_region_held3 (fun W' => (W'.cell? ⟨bS, 0, none⟩ = some (.slice (some ⟨sb, 0, none⟩) ks.length cap) ∧ W'.cell? ⟨bP, 0, none⟩ = some (.slice (a 0) (t 0).length (c 0)) ∧ W'.cell? ⟨bP, 1, none⟩ = some (.slice (a 1) (t 1).length (c 1)) ∧ W'.cell? ⟨bP, 2, none⟩ = some (.slice (a 2) (t 2).length (c 2)) ∧ W'.cell? ⟨bP, 3, none⟩ = some (.slice (a 3) (t 3).length (c 3)) ∧ W'.cell? ⟨bP, 4, none⟩ = some (.slice (a 4) (t 4).length (c 4)) ∧ W'.cell? ⟨bP, 5, none⟩ = some (.slice (a 5) (t 5).length (c 5)) ∧ W'.cell? ⟨bP, 6, none⟩ = some (.slice (a 6) (t 6).length (c 6)) ∧ W'.cell? ⟨bP, 7, none⟩ = some (.slice (a 7) (t 7).length (c 7)) ∧ W'.cell? ⟨bP, 8, none⟩ = some (.slice (a 8) (t 8).length (c 8)) ∧ W'.cell? ⟨bP, 9, none⟩ = some (.slice (a 9) (t 9).length (c 9)) ∧ W'.cell? ⟨bP, 10, none⟩ = some (.slice (a 10) (t 10).length (c 10)))) (first | exact hz | exact HEE.out _ (by assumption)) (first
    | (go_at_call 32; refine (HSC.out _ (by assumption)).mono ?_; rintro e wA ⟨rfl, hbA⟩; have hzA := HTR.out _ _ (by assumption) hbA)
    | (go_at_call 31; refine (HCN.out _ (by assumption) _).mono ?_; rintro e wB ⟨rfl, rfl⟩))
  go_wp2
  go_ret
  exact ⟨rfl, by assumption⟩
end Go.Proofs.YtlnehhfljjeifaaDoor
namespace Go.Proofs.YtlnehhfljjeifaaDoor
open Go.RowKit Go.Shelf

set_option maxHeartbeats 2000000 in
theorem viramaF_any (bT : Nat) (ra ca ea : Option Addr) (rcap ccap ecap : Nat) (n : Nm) (w : World) (k0 : w.cell? ⟨bT, 0, none⟩ = some (.slice ra n.rows.length rcap)) (k1 : w.cell? ⟨bT, 1, none⟩ = some (.slice ca n.cls.length ccap)) (k2 : w.cell? ⟨bT, 2, none⟩ = some (.slice ea n.exc.length ecap)) (hC : Tab w (.slice ca n.cls.length ccap) n.cls) (hl : n.cls.length ≤ 2147483648) (hm : Rises n.cls) (ha : Apart n.cls) :
    Tells 16 #[.pointer (some ⟨bT, 0, none⟩)] (isClass9 n.cls) w := by
  intro W r hbW
  have e : (#[Value.int .i32 r] ++ #[.pointer (some ⟨bT, 0, none⟩)] : Array Value) = #[.int .i32 r, .pointer (some ⟨bT, 0, none⟩)] := by simp
  rw [e]
  clear e
  have HCL := Hid.mk' (class_any (.slice ra n.rows.length rcap) (.slice ca n.cls.length ccap) (.slice ea n.exc.length ecap) n.cls r W (hC.below hbW) hl hm ha)
  have q0 := (hbW.cell (p := ⟨bT, 0, none⟩) (lt_of_cell k0)).trans k0
  have q1 := (hbW.cell (p := ⟨bT, 1, none⟩) (lt_of_cell k1)).trans k1
  have q2 := (hbW.cell (p := ⟨bT, 2, none⟩) (lt_of_cell k2)).trans k2
  unfold isClass9
  generalize classOf n.cls r = x at *
  clear k0 k1 k2 hC hl hm ha hbW
  go_enter Tryd.func16, Tryd.ntmps16
  go_wp2_with fail
  refine HCL.out.mono ?_
  rintro e w1 ⟨rfl, hb⟩
  go_wp2
  go_ret
  exact ⟨rfl, hb⟩
set_option maxHeartbeats 1000000 in
theorem smallF_any (w : World) : Tells 18 #[] isL w := by
  intro W r hbW
  have e : (#[Value.int .i32 r] ++ #[] : Array Value) = #[.int .i32 r] := by simp
  rw [e]
  clear e
  unfold isL
  go_enter Tryd.func18, Tryd.ntmps18
  go_wp2
  go_ret
  exact ⟨rfl, Below.refl _ _⟩
set_option maxRecDepth 20000 in
set_option maxHeartbeats 2000000 in
theorem ofScripts_any (a : Nat → Option Addr) (c : Nat → Nat) (t : Nat → List Rg) (sb cap : Nat) (ks : List Int) (w : World) (hk : ∀ j, j < ks.length → w.cell? ⟨sb, j, none⟩ = some (.int .i64 (ks.getD j 0))) (hsb : sb < w.heap.size) (hl : ks.length ≤ 1000) (hT : PT w a c t) (ho : ∀ i, i < 11 → Ok (t i)) :
    Calls Tryd.prog 19 #[PV a c t, .slice (some ⟨sb, 0, none⟩) ks.length cap] w fun e w' => ∃ F lb, e = .returned (.func (.func F) #[] lb) ∧ (∀ args w, (callFunc F args).run Tryd.prog w = .ok (.enter F args) w) ∧ Tells F lb (isScr (t 8) ks) w' ∧ Below w.heap.size w w' := by
  unfold PV
  obtain ⟨W0, hW0, hsz0, hb0, hp⟩ := prop_box w a c t
  obtain ⟨W1, hW1⟩ : ∃ W1, W0.alloc (.cells #[.slice (some ⟨sb, 0, none⟩) ks.length cap] 66) = W1 := ⟨_, rfl⟩
  have hsz1 : W1.heap.size = w.heap.size + 2 := by rw [← hW1, World.size_alloc, hsz0]
  have hb1 : Below W0.heap.size W0 W1 := by rw [← hW1]; exact (Below.refl _ _).alloc (Nat.le_refl _) _
  have hbw1 : Below w.heap.size w W1 := hb0.trans (hb1.mono hb0.size)
  have s0 : W1.cell? ⟨w.heap.size + 1, 0, none⟩ = some (.slice (some ⟨sb, 0, none⟩) ks.length cap) := by rw [← hW1, ← hsz0, World.cell?_alloc_new]; rfl
  have hq : PB W1 w.heap.size a c t := hp.below' hb1 (by rw [hsz0]; omega)
  have HT := Hid.mk' (scriptsF_any (w.heap.size + 1) w.heap.size sb cap ks a c t W1 s0 (fun j hj => (hbw1.cell (p := ⟨sb, j, none⟩) hsb).trans (hk j hj)) (by rw [hsz1]; omega) hl hq (hT.below hbw1) ho)
  have hF : ∀ args w, (callFunc 30 args).run Tryd.prog w = .ok (.enter 30 args) w := enters_of Tryd.func30 (by kernel_rfl) rfl
  have HB := Hid.mk' hbw1
  clear hp hq hk hsb hl hT ho s0 hb0 hb1 hbw1
  go_enter Tryd.func19, Tryd.ntmps19
  go_wp2
  go_ret
  exact ⟨_, _, rfl, hF, HT.out, HB.out⟩
set_option maxHeartbeats 2000000 in
theorem ruleF_any (b k : Nat) (w : World) (h : w.cell? ⟨b, 0, none⟩ = some (.int .i64 k)) :
    Tells 34 #[.pointer (some ⟨b, 0, none⟩)] (isRule k) w := by
  intro W r hbW
  have e : (#[Value.int .i32 r] ++ #[.pointer (some ⟨b, 0, none⟩)] : Array Value) = #[.int .i32 r, .pointer (some ⟨b, 0, none⟩)] := by simp
  rw [e]
  clear e
  have HR : Hid (∀ W, _) := fun W => rule_any r W
  have q0 := (hbW.cell (p := ⟨b, 0, none⟩) (lt_of_cell h)).trans h
  have hz : W.drew.cell? ⟨b, 0, none⟩ = some (.int .i64 k) := ((Below.refl W.heap.size W).drew.cell (p := ⟨b, 0, none⟩) (lt_of_cell q0)).trans q0
  have hbz : Below W.heap.size W W.drew := (Below.refl _ _).drew
  have hi : isRule k r = ((ruleM r : Int) == (k : Int)) := by
    unfold isRule
    rw [Bool.eq_iff_iff]
    simp only [beq_iff_eq]
    omega
  rw [hi]
  generalize ruleM r = x at *
  clear h hbW hi
  go_enter Tryd.func34, Tryd.ntmps34
  go_wp2
  go_region_held3 (fun W' => W'.cell? ⟨b, 0, none⟩ = some (.int .i64 k)) (first | exact hz) (first
    | (go_at_call 8; refine (HR.out _).mono ?_; rintro e wA ⟨rfl, rfl⟩))
  go_wp2
  go_ret
  exact ⟨ret_bool (by first | rfl | simp), hbz⟩
set_option maxHeartbeats 1000000 in
theorem ofRule_any (k : Nat) (w : World) :
    Calls Tryd.prog 21 #[.int .i64 k] w fun e w' => ∃ F lb, e = .returned (.func (.func F) #[] lb) ∧ (∀ args w, (callFunc F args).run Tryd.prog w = .ok (.enter F args) w) ∧ Tells F lb (isRule k) w' ∧ Below w.heap.size w w' := by
  obtain ⟨W0, hW0⟩ : ∃ W0, w.alloc (.cells #[.int .i64 (k : Int)] 3) = W0 := ⟨_, rfl⟩
  have hb0 : Below w.heap.size w W0 := by rw [← hW0]; exact (Below.refl _ w).alloc (Nat.le_refl _) _
  have e0 : W0.cell? ⟨w.heap.size, 0, none⟩ = some (.int .i64 (k : Int)) := by rw [← hW0, World.cell?_alloc_new]; rfl
  have HT := Hid.mk' (ruleF_any w.heap.size k W0 e0)
  have hF : ∀ args w, (callFunc 34 args).run Tryd.prog w = .ok (.enter 34 args) w := enters_of Tryd.func34 (by kernel_rfl) rfl
  have HB := Hid.mk' hb0
  clear hb0 e0
  go_enter Tryd.func21, Tryd.ntmps21
  go_wp2
  go_ret
  exact ⟨_, _, rfl, hF, HT.out, HB.out⟩
set_option maxRecDepth 20000 in
set_option maxHeartbeats 2000000 in
theorem joinsF1_any (bP : Nat) (a : Nat → Option Addr) (c : Nat → Nat) (t : Nat → List Rg) (w : World) (hp : PB w bP a c t) (hT : PT w a c t) (ho : ∀ i, i < 11 → Ok (t i)) :
    Tells 47 #[.pointer (some ⟨bP, 0, none⟩)] (fun r => valM (t 7) r == 4) w := by
  intro W r hbW
  have e : (#[Value.int .i32 r] ++ #[.pointer (some ⟨bP, 0, none⟩)] : Array Value) = #[.int .i32 r, .pointer (some ⟨bP, 0, none⟩)] := by simp
  rw [e]
  clear e
  have HJ := Hid.mk' (joinsT_any a c t r W (hT.below hbW) ho)
  unfold PV at HJ
  have hq := hp.below hbW
  have e0 : W.cell? ⟨bP, 0, none⟩ = some (.slice (a 0) (t 0).length (c 0)) := hq 0 (by omega)
  have e1 : W.cell? ⟨bP, 1, none⟩ = some (.slice (a 1) (t 1).length (c 1)) := hq 1 (by omega)
  have e2 : W.cell? ⟨bP, 2, none⟩ = some (.slice (a 2) (t 2).length (c 2)) := hq 2 (by omega)
  have e3 : W.cell? ⟨bP, 3, none⟩ = some (.slice (a 3) (t 3).length (c 3)) := hq 3 (by omega)
  have e4 : W.cell? ⟨bP, 4, none⟩ = some (.slice (a 4) (t 4).length (c 4)) := hq 4 (by omega)
  have e5 : W.cell? ⟨bP, 5, none⟩ = some (.slice (a 5) (t 5).length (c 5)) := hq 5 (by omega)
  have e6 : W.cell? ⟨bP, 6, none⟩ = some (.slice (a 6) (t 6).length (c 6)) := hq 6 (by omega)
  have e7 : W.cell? ⟨bP, 7, none⟩ = some (.slice (a 7) (t 7).length (c 7)) := hq 7 (by omega)
  have e8 : W.cell? ⟨bP, 8, none⟩ = some (.slice (a 8) (t 8).length (c 8)) := hq 8 (by omega)
  have e9 : W.cell? ⟨bP, 9, none⟩ = some (.slice (a 9) (t 9).length (c 9)) := hq 9 (by omega)
  have e10 : W.cell? ⟨bP, 10, none⟩ = some (.slice (a 10) (t 10).length (c 10)) := hq 10 (by omega)
  dsimp only
  generalize valM (t 7) r = x at *
  clear hp hT ho hq hbW
  go_enter Tryd.func47, Tryd.ntmps47
  go_wp2_with fail
  refine HJ.out.mono ?_
  rintro e w1 ⟨rfl, hb⟩
  go_wp2
  go_ret
  exact ⟨rfl, hb⟩
set_option maxRecDepth 20000 in
set_option maxHeartbeats 2000000 in
theorem joinsF2_any (bP bS : Nat) (side : Int) (a : Nat → Option Addr) (c : Nat → Nat) (t : Nat → List Rg) (w : World) (hs : w.cell? ⟨bS, 0, none⟩ = some (.int .i64 side)) (hp : PB w bP a c t) (hT : PT w a c t) (ho : ∀ i, i < 11 → Ok (t i)) :
    Tells 49 #[.pointer (some ⟨bP, 0, none⟩), .pointer (some ⟨bS, 0, none⟩)] (fun r => valM (t 7) r == side || valM (t 7) r == 3) w := by
  intro W r hbW
  have e : (#[Value.int .i32 r] ++ #[.pointer (some ⟨bP, 0, none⟩), .pointer (some ⟨bS, 0, none⟩)] : Array Value) = #[.int .i32 r, .pointer (some ⟨bP, 0, none⟩), .pointer (some ⟨bS, 0, none⟩)] := by simp
  rw [e]
  clear e
  have HJ := Hid.mk' (joinsT_any a c t r W (hT.below hbW) ho)
  unfold PV at HJ
  have hq := hp.below hbW
  have e0 : W.cell? ⟨bP, 0, none⟩ = some (.slice (a 0) (t 0).length (c 0)) := hq 0 (by omega)
  have e1 : W.cell? ⟨bP, 1, none⟩ = some (.slice (a 1) (t 1).length (c 1)) := hq 1 (by omega)
  have e2 : W.cell? ⟨bP, 2, none⟩ = some (.slice (a 2) (t 2).length (c 2)) := hq 2 (by omega)
  have e3 : W.cell? ⟨bP, 3, none⟩ = some (.slice (a 3) (t 3).length (c 3)) := hq 3 (by omega)
  have e4 : W.cell? ⟨bP, 4, none⟩ = some (.slice (a 4) (t 4).length (c 4)) := hq 4 (by omega)
  have e5 : W.cell? ⟨bP, 5, none⟩ = some (.slice (a 5) (t 5).length (c 5)) := hq 5 (by omega)
  have e6 : W.cell? ⟨bP, 6, none⟩ = some (.slice (a 6) (t 6).length (c 6)) := hq 6 (by omega)
  have e7 : W.cell? ⟨bP, 7, none⟩ = some (.slice (a 7) (t 7).length (c 7)) := hq 7 (by omega)
  have e8 : W.cell? ⟨bP, 8, none⟩ = some (.slice (a 8) (t 8).length (c 8)) := hq 8 (by omega)
  have e9 : W.cell? ⟨bP, 9, none⟩ = some (.slice (a 9) (t 9).length (c 9)) := hq 9 (by omega)
  have e10 : W.cell? ⟨bP, 10, none⟩ = some (.slice (a 10) (t 10).length (c 10)) := hq 10 (by omega)
  have hsW := (hbW.cell (p := ⟨bS, 0, none⟩) (lt_of_cell hs)).trans hs
  have HS : Hid (∀ W', Below W.heap.size W W' → W'.cell? ⟨bS, 0, none⟩ = some (.int .i64 side)) := fun W' hb => (hb.cell (p := ⟨bS, 0, none⟩) (lt_of_cell hsW)).trans hsW
  dsimp only
  generalize valM (t 7) r = x at *
  clear hp hT ho hq hbW hs hsW
  cases hx : (x == side)
  all_goals
    go_enter Tryd.func49, Tryd.ntmps49
    go_wp2_with fail
    refine HJ.out.mono ?_
    rintro e w1 ⟨rfl, hb⟩
    have s1 := HS.out w1 hb
    go_wp2
    go_ret
    exact ⟨ret_bool (by first | rfl | simp), hb⟩
set_option maxHeartbeats 4000000 in
theorem passedB_any (F : Nat) (lb : Array Value) (g : Int → Bool) (v : Value) (l : List Int) (fr : Int) (w : World) (hR : Runes w v l) (hl : l.length ≤ 2147483648) (h0 : -1 ≤ fr) (h1 : fr ≤ (l.length : Int))
    (eg : ∀ args w, (callFunc F args).run Tryd.prog w = .ok (.enter F args) w) (hp : Tells F lb g w) :
    Calls Tryd.prog 46 #[v, .int .i64 fr, .int .i64 (1), .func (.func F) #[] lb] w fun e w' => ∃ m : Nat, e = .returned (.int .i64 m) ∧ m ≤ l.length + 1 ∧ Below w.heap.size w w' := by
  have HS : Hid (∀ W i, Below w.heap.size w W → _) := fun W i hb => stands_any F lb g v l i W (hR.below hb) hl eg (hp.below hb)
  have HX : Hid (∀ (m : Nat) (x : Int), m ≤ l.length + 1 → x = fr + (m : Int) * (1) → standsB l x g = true → m + 1 ≤ l.length + 1) := fun m x hm hx h => by
    rcases (by omega : x < 0 ∨ (l.length : Int) ≤ x ∨ (0 ≤ x ∧ x < (l.length : Int))) with q | q | ⟨q1, q2⟩
    · rw [standsB_lt g q] at h; cases h
    · rw [standsB_ge g q] at h; cases h
    · omega
  clear hp eg
  obtain ⟨av, cap, rfl, -⟩ := hR
  go_enter Tryd.func46, Tryd.ntmps46
  go_wp2
  go_loopw [9] (fun y wr => ∃ m : Nat, y = .int .i64 m ∧ m ≤ l.length + 1 ∧ Below w.heap.size w wr) (fun y _ => l.length + 2 - (intOf y).toNat)
  case atStart => exact ⟨0, rfl, by omega, Below.refl _ _⟩
  case round =>
    obtain ⟨m, rfl, hm, hb⟩ := hrel
    go_wp2_with fail
    refine (HS.out wr _ hb).mono ?_
    rintro e w1 ⟨rfl, hb1⟩
    generalize hq : standsB l _ g = q
    cases q
    · clear hq
      go_wp2
      go_ret
      exact ⟨m, rfl, hm, hb.trans (hb1.mono hb.size)⟩
    · have hm' := HX.out m _ hm (by omega) hq
      clear hq
      go_wp2
      go_roundw
      case rel => exact ⟨m + 1, by go_num, hm', hb.trans (hb1.mono hb.size)⟩
      case measure => simp [intOf]; omega
set_option maxHeartbeats 4000000 in
theorem passedA_any (F : Nat) (lb : Array Value) (g : Int → Bool) (v : Value) (l : List Int) (fr : Int) (w : World) (hR : Runes w v l) (hl : l.length ≤ 2147483648) (h0 : -1 ≤ fr) (h1 : fr ≤ (l.length : Int))
    (eg : ∀ args w, (callFunc F args).run Tryd.prog w = .ok (.enter F args) w) (hp : Tells F lb g w) :
    Calls Tryd.prog 46 #[v, .int .i64 fr, .int .i64 (-1), .func (.func F) #[] lb] w fun e w' => ∃ m : Nat, e = .returned (.int .i64 m) ∧ m ≤ l.length + 1 ∧ Below w.heap.size w w' := by
  have HS : Hid (∀ W i, Below w.heap.size w W → _) := fun W i hb => stands_any F lb g v l i W (hR.below hb) hl eg (hp.below hb)
  have HX : Hid (∀ (m : Nat) (x : Int), m ≤ l.length + 1 → x = fr + (m : Int) * (-1) → standsB l x g = true → m + 1 ≤ l.length + 1) := fun m x hm hx h => by
    rcases (by omega : x < 0 ∨ (l.length : Int) ≤ x ∨ (0 ≤ x ∧ x < (l.length : Int))) with q | q | ⟨q1, q2⟩
    · rw [standsB_lt g q] at h; cases h
    · rw [standsB_ge g q] at h; cases h
    · omega
  clear hp eg
  obtain ⟨av, cap, rfl, -⟩ := hR
  go_enter Tryd.func46, Tryd.ntmps46
  go_wp2
  go_loopw [9] (fun y wr => ∃ m : Nat, y = .int .i64 m ∧ m ≤ l.length + 1 ∧ Below w.heap.size w wr) (fun y _ => l.length + 2 - (intOf y).toNat)
  case atStart => exact ⟨0, rfl, by omega, Below.refl _ _⟩
  case round =>
    obtain ⟨m, rfl, hm, hb⟩ := hrel
    go_wp2_with fail
    refine (HS.out wr _ hb).mono ?_
    rintro e w1 ⟨rfl, hb1⟩
    generalize hq : standsB l _ g = q
    cases q
    · clear hq
      go_wp2
      go_ret
      exact ⟨m, rfl, hm, hb.trans (hb1.mono hb.size)⟩
    · have hm' := HX.out m _ hm (by omega) hq
      clear hq
      go_wp2
      go_roundw
      case rel => exact ⟨m + 1, by go_num, hm', hb.trans (hb1.mono hb.size)⟩
      case measure => simp [intOf]; omega
set_option maxRecDepth 20000 in
set_option maxHeartbeats 4000000 in
theorem joinsB_any (a : Nat → Option Addr) (c : Nat → Nat) (t : Nat → List Rg) (v : Value) (l : List Int) (i : Nat) (side : Int) (w : World) (hT : PT w a c t) (ho : ∀ i, i < 11 → Ok (t i)) (hR : Runes w v l) (hl : l.length ≤ 2147483648) (hi : i < l.length) :
    Calls Tryd.prog 28 #[PV a c t, v, .int .i64 i, .int .i64 (1), .int .i64 side] w fun e w' => ∃ b, e = .returned (.bool b) ∧ Below w.heap.size w w' := by
  unfold PV
  obtain ⟨W0, hW0, hsz0, hb0, hp⟩ := prop_box w a c t
  obtain ⟨W1, hW1⟩ : ∃ W1, W0.alloc (.cells #[.int .i64 side] 3) = W1 := ⟨_, rfl⟩
  have hb1 : Below W0.heap.size W0 W1 := by rw [← hW1]; exact (Below.refl _ _).alloc (Nat.le_refl _) _
  have hbw1 : Below w.heap.size w W1 := hb0.trans (hb1.mono hb0.size)
  have s0 : W1.cell? ⟨w.heap.size + 1, 0, none⟩ = some (.int .i64 side) := by rw [← hW1, ← hsz0, World.cell?_alloc_new]; rfl
  have hq : PB W1 w.heap.size a c t := hp.below' hb1 (by rw [hsz0]; omega)
  have F1 := joinsF1_any w.heap.size a c t W1 hq (hT.below hbw1) ho
  have F2 := joinsF2_any w.heap.size (w.heap.size + 1) side a c t W1 s0 hq (hT.below hbw1) ho
  have e1 : ∀ args w, (callFunc 47 args).run Tryd.prog w = .ok (.enter 47 args) w := enters_of Tryd.func47 (by kernel_rfl) rfl
  have e2 : ∀ args w, (callFunc 49 args).run Tryd.prog w = .ok (.enter 49 args) w := enters_of Tryd.func49 (by kernel_rfl) rfl
  have HPa := Hid.mk' (passedB_any 47 _ _ v l ((i : Int) + (1)) W1 (hR.below hbw1) hl (by omega) (by omega) e1 F1)
  have HSt : Hid (∀ W x, Below W1.heap.size W1 W → _) := fun W x hb => stands_any 49 _ _ v l x W (hR.below (hbw1.trans (hb.mono hbw1.size))) hl e2 (F2.below hb)
  have HB := Hid.mk' hbw1
  obtain ⟨av, cap, rfl, -⟩ := hR
  clear hp hq hT ho s0 hb0 hb1 hbw1 F1 F2 e1 e2
  go_enter Tryd.func28, Tryd.ntmps28
  go_wp2_with fail
  refine HPa.out.mono ?_
  rintro e w1 ⟨m, rfl, hm, hb2⟩
  go_wp2_with fail
  refine (HSt.out w1 _ hb2).mono ?_
  rintro e w2 ⟨rfl, hb3⟩
  go_wp2
  go_ret
  exact ⟨_, rfl, HB.out.trans ((hb2.trans (hb3.mono hb2.size)).mono HB.out.size)⟩
set_option maxRecDepth 20000 in
set_option maxHeartbeats 4000000 in
theorem joinsA_any (a : Nat → Option Addr) (c : Nat → Nat) (t : Nat → List Rg) (v : Value) (l : List Int) (i : Nat) (side : Int) (w : World) (hT : PT w a c t) (ho : ∀ i, i < 11 → Ok (t i)) (hR : Runes w v l) (hl : l.length ≤ 2147483648) (hi : i < l.length) :
    Calls Tryd.prog 28 #[PV a c t, v, .int .i64 i, .int .i64 (-1), .int .i64 side] w fun e w' => ∃ b, e = .returned (.bool b) ∧ Below w.heap.size w w' := by
  unfold PV
  obtain ⟨W0, hW0, hsz0, hb0, hp⟩ := prop_box w a c t
  obtain ⟨W1, hW1⟩ : ∃ W1, W0.alloc (.cells #[.int .i64 side] 3) = W1 := ⟨_, rfl⟩
  have hb1 : Below W0.heap.size W0 W1 := by rw [← hW1]; exact (Below.refl _ _).alloc (Nat.le_refl _) _
  have hbw1 : Below w.heap.size w W1 := hb0.trans (hb1.mono hb0.size)
  have s0 : W1.cell? ⟨w.heap.size + 1, 0, none⟩ = some (.int .i64 side) := by rw [← hW1, ← hsz0, World.cell?_alloc_new]; rfl
  have hq : PB W1 w.heap.size a c t := hp.below' hb1 (by rw [hsz0]; omega)
  have F1 := joinsF1_any w.heap.size a c t W1 hq (hT.below hbw1) ho
  have F2 := joinsF2_any w.heap.size (w.heap.size + 1) side a c t W1 s0 hq (hT.below hbw1) ho
  have e1 : ∀ args w, (callFunc 47 args).run Tryd.prog w = .ok (.enter 47 args) w := enters_of Tryd.func47 (by kernel_rfl) rfl
  have e2 : ∀ args w, (callFunc 49 args).run Tryd.prog w = .ok (.enter 49 args) w := enters_of Tryd.func49 (by kernel_rfl) rfl
  have HPa := Hid.mk' (passedA_any 47 _ _ v l ((i : Int) + (-1)) W1 (hR.below hbw1) hl (by omega) (by omega) e1 F1)
  have HSt : Hid (∀ W x, Below W1.heap.size W1 W → _) := fun W x hb => stands_any 49 _ _ v l x W (hR.below (hbw1.trans (hb.mono hbw1.size))) hl e2 (F2.below hb)
  have HB := Hid.mk' hbw1
  obtain ⟨av, cap, rfl, -⟩ := hR
  clear hp hq hT ho s0 hb0 hb1 hbw1 F1 F2 e1 e2
  go_enter Tryd.func28, Tryd.ntmps28
  go_wp2_with fail
  refine HPa.out.mono ?_
  rintro e w1 ⟨m, rfl, hm, hb2⟩
  go_wp2_with fail
  refine (HSt.out w1 _ hb2).mono ?_
  rintro e w2 ⟨rfl, hb3⟩
  go_wp2
  go_ret
  exact ⟨_, rfl, HB.out.trans ((hb2.trans (hb3.mono hb2.size)).mono HB.out.size)⟩
set_option maxRecDepth 20000 in
set_option maxHeartbeats 4000000 in
theorem joined_any (a : Nat → Option Addr) (c : Nat → Nat) (t : Nat → List Rg) (v : Value) (l : List Int) (i : Nat) (w : World) (hT : PT w a c t) (ho : ∀ i, i < 11 → Ok (t i)) (hR : Runes w v l) (hl : l.length ≤ 2147483648) (hi : i < l.length) :
    Calls Tryd.prog 14 #[PV a c t, v, .int .i64 i] w fun e w' => ∃ b, e = .returned (.bool b) ∧ Below w.heap.size w w' := by
  obtain ⟨W0, hW0, hsz0, hb0, hp⟩ := prop_box w a c t
  have HA := Hid.mk' (joinsA_any a c t v l i 1 W0 (hT.below hb0) ho (hR.below hb0) hl hi)
  have HJB : Hid (∀ W, Below w.heap.size w W → _) := fun W hb => joinsB_any a c t v l i 2 W (hT.below hb) ho (hR.below hb) hl hi
  have HP : Hid (∀ W, Below W0.heap.size W0 W → PB W w.heap.size a c t) := fun W hb => hp.below' hb (by omega)
  have HB := Hid.mk' hb0
  have e0 : W0.cell? ⟨w.heap.size, 0, none⟩ = some (.slice (a 0) (t 0).length (c 0)) := hp 0 (by omega)
  have e1 : W0.cell? ⟨w.heap.size, 1, none⟩ = some (.slice (a 1) (t 1).length (c 1)) := hp 1 (by omega)
  have e2 : W0.cell? ⟨w.heap.size, 2, none⟩ = some (.slice (a 2) (t 2).length (c 2)) := hp 2 (by omega)
  have e3 : W0.cell? ⟨w.heap.size, 3, none⟩ = some (.slice (a 3) (t 3).length (c 3)) := hp 3 (by omega)
  have e4 : W0.cell? ⟨w.heap.size, 4, none⟩ = some (.slice (a 4) (t 4).length (c 4)) := hp 4 (by omega)
  have e5 : W0.cell? ⟨w.heap.size, 5, none⟩ = some (.slice (a 5) (t 5).length (c 5)) := hp 5 (by omega)
  have e6 : W0.cell? ⟨w.heap.size, 6, none⟩ = some (.slice (a 6) (t 6).length (c 6)) := hp 6 (by omega)
  have e7 : W0.cell? ⟨w.heap.size, 7, none⟩ = some (.slice (a 7) (t 7).length (c 7)) := hp 7 (by omega)
  have e8 : W0.cell? ⟨w.heap.size, 8, none⟩ = some (.slice (a 8) (t 8).length (c 8)) := hp 8 (by omega)
  have e9 : W0.cell? ⟨w.heap.size, 9, none⟩ = some (.slice (a 9) (t 9).length (c 9)) := hp 9 (by omega)
  have e10 : W0.cell? ⟨w.heap.size, 10, none⟩ = some (.slice (a 10) (t 10).length (c 10)) := hp 10 (by omega)
  unfold PV at HA HJB ⊢
  obtain ⟨av, cap, rfl, -⟩ := hR
  clear hp hT ho hb0
  go_enter Tryd.func14, Tryd.ntmps14
  go_wp2_with fail
  refine HA.out.mono ?_
  rintro e w1 ⟨b1, rfl, hb1⟩
  have hbw1 := HB.out.trans (hb1.mono HB.out.size)
  have hp1 := HP.out w1 hb1
  clear e0 e1 e2 e3 e4 e5 e6 e7 e8 e9 e10
  have x0 : w1.cell? ⟨w.heap.size, 0, none⟩ = some (.slice (a 0) (t 0).length (c 0)) := hp1 0 (by omega)
  have x1 : w1.cell? ⟨w.heap.size, 1, none⟩ = some (.slice (a 1) (t 1).length (c 1)) := hp1 1 (by omega)
  have x2 : w1.cell? ⟨w.heap.size, 2, none⟩ = some (.slice (a 2) (t 2).length (c 2)) := hp1 2 (by omega)
  have x3 : w1.cell? ⟨w.heap.size, 3, none⟩ = some (.slice (a 3) (t 3).length (c 3)) := hp1 3 (by omega)
  have x4 : w1.cell? ⟨w.heap.size, 4, none⟩ = some (.slice (a 4) (t 4).length (c 4)) := hp1 4 (by omega)
  have x5 : w1.cell? ⟨w.heap.size, 5, none⟩ = some (.slice (a 5) (t 5).length (c 5)) := hp1 5 (by omega)
  have x6 : w1.cell? ⟨w.heap.size, 6, none⟩ = some (.slice (a 6) (t 6).length (c 6)) := hp1 6 (by omega)
  have x7 : w1.cell? ⟨w.heap.size, 7, none⟩ = some (.slice (a 7) (t 7).length (c 7)) := hp1 7 (by omega)
  have x8 : w1.cell? ⟨w.heap.size, 8, none⟩ = some (.slice (a 8) (t 8).length (c 8)) := hp1 8 (by omega)
  have x9 : w1.cell? ⟨w.heap.size, 9, none⟩ = some (.slice (a 9) (t 9).length (c 9)) := hp1 9 (by omega)
  have x10 : w1.cell? ⟨w.heap.size, 10, none⟩ = some (.slice (a 10) (t 10).length (c 10)) := hp1 10 (by omega)
  clear hp1
  cases b1
  · go_wp2
    go_ret
    exact ⟨_, rfl, hbw1⟩
  · go_wp2_with fail
    refine (HJB.out w1 hbw1).mono ?_
    rintro e w2 ⟨b2, rfl, hb2⟩
    go_wp2
    go_ret
    exact ⟨_, rfl, hbw1.trans (hb2.mono hbw1.size)⟩
end Go.Proofs.YtlnehhfljjeifaaDoor
namespace Go.Proofs.YtlnehhfljjeifaaDoor
open Go.RowKit Go.Shelf

theorem standsB_congr {l : List Int} {x y : Int} {g : Int → Bool} (h : x = y) : standsB l x g = standsB l y g := by rw [h]
set_option maxRecDepth 20000 in
set_option maxHeartbeats 8000000 in
theorem holds0_any (ra ca ea la : Option Addr) (rcap ccap ecap ln lc : Nat) (n : Nm) (a : Nat → Option Addr) (c : Nat → Nat) (t : Nat → List Rg) (b off lcap : Nat) (l : List Int) (i : Nat) (w : World) (hC : Tab w (.slice ca n.cls.length ccap) n.cls) (hlc : n.cls.length ≤ 2147483648) (hm : Rises n.cls) (ha : Apart n.cls) (hT : PT w a c t) (ho : ∀ i, i < 11 → Ok (t i)) (hR : Runes w (.slice (some ⟨b, off, none⟩) l.length lcap) l) (hl : l.length ≤ 1000) (hi : i < l.length) (hk : ruleM (l.getD i 0) = 0) :
    Calls Tryd.prog 9 #[TV (.slice ra n.rows.length rcap) (.slice ca n.cls.length ccap) (.slice ea n.exc.length ecap) a c t (.slice la ln lc), .slice (some ⟨b, off, none⟩) l.length lcap, .int .i64 i] w fun e w' => e = .returned (.bool false) ∧ Below w.heap.size w w' := by
  obtain ⟨W0, hW0, hsz0, hb0, hB⟩ := tab_box w (.slice ra n.rows.length rcap) (.slice ca n.cls.length ccap) (.slice ea n.exc.length ecap) a c t (.slice la ln lc)
  have ck : W0.cell? ⟨b, off + i, none⟩ = some (.int .i32 (l.getD i 0)) := by
    obtain ⟨av, cap, e1, h⟩ := hR
    obtain ⟨b', off', e2, q⟩ := h i hi
    obtain ⟨e3, -, -⟩ : some (⟨b, off, none⟩ : Addr) = av ∧ l.length = l.length ∧ lcap = cap := by injection e1 with x y z; exact ⟨x, y, z⟩
    rw [e2] at e3
    obtain ⟨rfl, rfl⟩ : b = b' ∧ off = off' := by simpa using e3
    exact (hb0.cell (p := ⟨b, off + i, none⟩) (lt_of_cell q)).trans q
  have HRU : Hid (Calls Tryd.prog 8 #[.int .i32 (l.getD i 0)] W0 fun e w' => e = .returned (.int .i64 0) ∧ W0 = w') := by
    have h := rule_any (l.getD i 0) W0
    rw [hk] at h
    exact h
  have hi0 : decide ((i : Int) < 0) = false := decide_eq_false (by omega)
  have hi1 : decide ((l.length : Int) ≤ (i : Int)) = false := decide_eq_false (by omega)
  have hi2 : decide (l.length ≤ i) = false := decide_eq_false (by omega)
  have hil : (i : Int) < (l.length : Int) := by omega
  have HB := Hid.mk' hb0
  have _u := Hid.mk' (And.intro hC (And.intro hlc (And.intro hm (And.intro ha (And.intro hT (And.intro ho hl))))))
  unfold TV
  generalize l.getD i 0 = x at *
  clear hB hC hm ha hT ho hR hk
  go_enter Tryd.func9, Tryd.ntmps9
  go_wp2_with fail
  refine HRU.out.mono ?_
  rintro e w0 ⟨rfl, rfl⟩
  go_wp2
  go_ret
  exact ⟨rfl, HB.out⟩
set_option maxRecDepth 20000 in
set_option maxHeartbeats 8000000 in
theorem holds2_any (ra ca ea la : Option Addr) (rcap ccap ecap ln lc : Nat) (n : Nm) (a : Nat → Option Addr) (c : Nat → Nat) (t : Nat → List Rg) (b off lcap : Nat) (l : List Int) (i : Nat) (w : World) (hC : Tab w (.slice ca n.cls.length ccap) n.cls) (hlc : n.cls.length ≤ 2147483648) (hm : Rises n.cls) (ha : Apart n.cls) (hT : PT w a c t) (ho : ∀ i, i < 11 → Ok (t i)) (hR : Runes w (.slice (some ⟨b, off, none⟩) l.length lcap) l) (hl : l.length ≤ 1000) (hi : i < l.length) (hk : ruleM (l.getD i 0) = 2) :
    Calls Tryd.prog 9 #[TV (.slice ra n.rows.length rcap) (.slice ca n.cls.length ccap) (.slice ea n.exc.length ecap) a c t (.slice la ln lc), .slice (some ⟨b, off, none⟩) l.length lcap, .int .i64 i] w fun e w' => e = .returned (.bool (standsB l ((i : Int) - 1) (isClass9 n.cls))) ∧ Below w.heap.size w w' := by
  obtain ⟨W0, hW0, hsz0, hb0, hB⟩ := tab_box w (.slice ra n.rows.length rcap) (.slice ca n.cls.length ccap) (.slice ea n.exc.length ecap) a c t (.slice la ln lc)
  have ck : W0.cell? ⟨b, off + i, none⟩ = some (.int .i32 (l.getD i 0)) := by
    obtain ⟨av, cap, e1, h⟩ := hR
    obtain ⟨b', off', e2, q⟩ := h i hi
    obtain ⟨e3, -, -⟩ : some (⟨b, off, none⟩ : Addr) = av ∧ l.length = l.length ∧ lcap = cap := by injection e1 with x y z; exact ⟨x, y, z⟩
    rw [e2] at e3
    obtain ⟨rfl, rfl⟩ : b = b' ∧ off = off' := by simpa using e3
    exact (hb0.cell (p := ⟨b, off + i, none⟩) (lt_of_cell q)).trans q
  have HRU : Hid (Calls Tryd.prog 8 #[.int .i32 (l.getD i 0)] W0 fun e w' => e = .returned (.int .i64 2) ∧ W0 = w') := by
    have h := rule_any (l.getD i 0) W0
    rw [hk] at h
    exact h
  have hi0 : decide ((i : Int) < 0) = false := decide_eq_false (by omega)
  have hi1 : decide ((l.length : Int) ≤ (i : Int)) = false := decide_eq_false (by omega)
  have hi2 : decide (l.length ≤ i) = false := decide_eq_false (by omega)
  have hil : (i : Int) < (l.length : Int) := by omega
  have HB := Hid.mk' hb0
  have _u := Hid.mk' (And.intro hC (And.intro hlc (And.intro hm (And.intro ha (And.intro hT (And.intro ho hl))))))
  have k0 := hB.r
  have k1 := hB.k
  have k2 := hB.e
  have FV := viramaF_any w.heap.size ra ca ea rcap ccap ecap n W0 k0 k1 k2 (hC.below hb0) hlc hm ha
  have eV : ∀ args w, (callFunc 16 args).run Tryd.prog w = .ok (.enter 16 args) w := enters_of Tryd.func16 (by kernel_rfl) rfl
  have HV : Hid (∀ W y, Below W0.heap.size W0 W → _) := fun W y hb => stands_any 16 _ _ (.slice (some ⟨b, off, none⟩) l.length lcap) l y W (hR.below (hb0.trans (hb.mono hb0.size))) (by omega) eV (FV.below hb)
  unfold TV
  generalize l.getD i 0 = x at *
  clear hB hC hm ha hT ho hR hk k0 k1 k2 FV eV
  go_enter Tryd.func9, Tryd.ntmps9
  go_wp2_with fail
  refine HRU.out.mono ?_
  rintro e w0 ⟨rfl, rfl⟩
  go_wp2_with fail
  refine (HV.out W0 _ (Below.refl _ _)).mono ?_
  rintro e wz ⟨rfl, hbz⟩
  go_wp2
  go_ret
  exact ⟨ret_bool (standsB_congr (by omega)), HB.out.trans (hbz.mono HB.out.size)⟩
set_option maxRecDepth 20000 in
set_option maxHeartbeats 8000000 in
theorem holds1_any (ra ca ea la : Option Addr) (rcap ccap ecap ln lc : Nat) (n : Nm) (a : Nat → Option Addr) (c : Nat → Nat) (t : Nat → List Rg) (b off lcap : Nat) (l : List Int) (i : Nat) (w : World) (hC : Tab w (.slice ca n.cls.length ccap) n.cls) (hlc : n.cls.length ≤ 2147483648) (hm : Rises n.cls) (ha : Apart n.cls) (hT : PT w a c t) (ho : ∀ i, i < 11 → Ok (t i)) (hR : Runes w (.slice (some ⟨b, off, none⟩) l.length lcap) l) (hl : l.length ≤ 1000) (hi : i < l.length) (hk : ruleM (l.getD i 0) = 1) :
    Calls Tryd.prog 9 #[TV (.slice ra n.rows.length rcap) (.slice ca n.cls.length ccap) (.slice ea n.exc.length ecap) a c t (.slice la ln lc), .slice (some ⟨b, off, none⟩) l.length lcap, .int .i64 i] w fun e w' => (∃ b, e = .returned (.bool b)) ∧ Below w.heap.size w w' := by
  obtain ⟨W0, hW0, hsz0, hb0, hB⟩ := tab_box w (.slice ra n.rows.length rcap) (.slice ca n.cls.length ccap) (.slice ea n.exc.length ecap) a c t (.slice la ln lc)
  have ck : W0.cell? ⟨b, off + i, none⟩ = some (.int .i32 (l.getD i 0)) := by
    obtain ⟨av, cap, e1, h⟩ := hR
    obtain ⟨b', off', e2, q⟩ := h i hi
    obtain ⟨e3, -, -⟩ : some (⟨b, off, none⟩ : Addr) = av ∧ l.length = l.length ∧ lcap = cap := by injection e1 with x y z; exact ⟨x, y, z⟩
    rw [e2] at e3
    obtain ⟨rfl, rfl⟩ : b = b' ∧ off = off' := by simpa using e3
    exact (hb0.cell (p := ⟨b, off + i, none⟩) (lt_of_cell q)).trans q
  have HRU : Hid (Calls Tryd.prog 8 #[.int .i32 (l.getD i 0)] W0 fun e w' => e = .returned (.int .i64 1) ∧ W0 = w') := by
    have h := rule_any (l.getD i 0) W0
    rw [hk] at h
    exact h
  have hi0 : decide ((i : Int) < 0) = false := decide_eq_false (by omega)
  have hi1 : decide ((l.length : Int) ≤ (i : Int)) = false := decide_eq_false (by omega)
  have hi2 : decide (l.length ≤ i) = false := decide_eq_false (by omega)
  have hil : (i : Int) < (l.length : Int) := by omega
  have HB := Hid.mk' hb0
  have _u := Hid.mk' (And.intro hC (And.intro hlc (And.intro hm (And.intro ha (And.intro hT (And.intro ho hl))))))
  have k0 := hB.r
  have k1 := hB.k
  have k2 := hB.e
  have FV := viramaF_any w.heap.size ra ca ea rcap ccap ecap n W0 k0 k1 k2 (hC.below hb0) hlc hm ha
  have eV : ∀ args w, (callFunc 16 args).run Tryd.prog w = .ok (.enter 16 args) w := enters_of Tryd.func16 (by kernel_rfl) rfl
  have HV : Hid (∀ W y, Below W0.heap.size W0 W → _) := fun W y hb => stands_any 16 _ _ (.slice (some ⟨b, off, none⟩) l.length lcap) l y W (hR.below (hb0.trans (hb.mono hb0.size))) (by omega) eV (FV.below hb)
  have HJ := Hid.mk' (joined_any a c t (.slice (some ⟨b, off, none⟩) l.length lcap) l i W0 (hT.below hb0) ho (hR.below hb0) (by omega) hi)
  have e0 : W0.cell? ⟨w.heap.size, 3, none⟩ = some (.slice (a 0) (t 0).length (c 0)) := hB.p 0 (by omega)
  have e1 : W0.cell? ⟨w.heap.size, 4, none⟩ = some (.slice (a 1) (t 1).length (c 1)) := hB.p 1 (by omega)
  have e2 : W0.cell? ⟨w.heap.size, 5, none⟩ = some (.slice (a 2) (t 2).length (c 2)) := hB.p 2 (by omega)
  have e3 : W0.cell? ⟨w.heap.size, 6, none⟩ = some (.slice (a 3) (t 3).length (c 3)) := hB.p 3 (by omega)
  have e4 : W0.cell? ⟨w.heap.size, 7, none⟩ = some (.slice (a 4) (t 4).length (c 4)) := hB.p 4 (by omega)
  have e5 : W0.cell? ⟨w.heap.size, 8, none⟩ = some (.slice (a 5) (t 5).length (c 5)) := hB.p 5 (by omega)
  have e6 : W0.cell? ⟨w.heap.size, 9, none⟩ = some (.slice (a 6) (t 6).length (c 6)) := hB.p 6 (by omega)
  have e7 : W0.cell? ⟨w.heap.size, 10, none⟩ = some (.slice (a 7) (t 7).length (c 7)) := hB.p 7 (by omega)
  have e8 : W0.cell? ⟨w.heap.size, 11, none⟩ = some (.slice (a 8) (t 8).length (c 8)) := hB.p 8 (by omega)
  have e9 : W0.cell? ⟨w.heap.size, 12, none⟩ = some (.slice (a 9) (t 9).length (c 9)) := hB.p 9 (by omega)
  have e10 : W0.cell? ⟨w.heap.size, 13, none⟩ = some (.slice (a 10) (t 10).length (c 10)) := hB.p 10 (by omega)
  unfold TV
  generalize l.getD i 0 = x at *
  unfold PV at HJ
  clear hB hC hm ha hT ho hR hk k0 k1 k2 FV eV
  go_enter Tryd.func9, Tryd.ntmps9
  go_wp2_with fail
  refine HRU.out.mono ?_
  rintro e w0 ⟨rfl, rfl⟩
  go_wp2_with fail
  refine HJ.out.mono ?_
  rintro e w1 ⟨b1, rfl, hb1⟩
  clear e0 e1 e2 e3 e4 e5 e6 e7 e8 e9 e10 HJ
  cases b1
  · go_wp2_with fail
    refine (HV.out w1 _ hb1).mono ?_
    rintro e w2 ⟨rfl, hb2⟩
    go_wp2
    go_ret
    exact ⟨⟨_, rfl⟩, HB.out.trans ((hb1.trans (hb2.mono hb1.size)).mono HB.out.size)⟩
  · go_wp2
    go_ret
    exact ⟨⟨_, rfl⟩, HB.out.trans (hb1.mono HB.out.size)⟩
set_option maxRecDepth 20000 in
set_option maxHeartbeats 8000000 in
theorem holds3_any (ra ca ea la : Option Addr) (rcap ccap ecap ln lc : Nat) (n : Nm) (a : Nat → Option Addr) (c : Nat → Nat) (t : Nat → List Rg) (b off lcap : Nat) (l : List Int) (i : Nat) (w : World) (hC : Tab w (.slice ca n.cls.length ccap) n.cls) (hlc : n.cls.length ≤ 2147483648) (hm : Rises n.cls) (ha : Apart n.cls) (hT : PT w a c t) (ho : ∀ i, i < 11 → Ok (t i)) (hR : Runes w (.slice (some ⟨b, off, none⟩) l.length lcap) l) (hl : l.length ≤ 1000) (hi : i < l.length) (hk : ruleM (l.getD i 0) = 3) :
    Calls Tryd.prog 9 #[TV (.slice ra n.rows.length rcap) (.slice ca n.cls.length ccap) (.slice ea n.exc.length ecap) a c t (.slice la ln lc), .slice (some ⟨b, off, none⟩) l.length lcap, .int .i64 i] w fun e w' => e = .returned (.bool (standsB l ((i : Int) - 1) isL && standsB l ((i : Int) + 1) isL)) ∧ Below w.heap.size w w' := by
  obtain ⟨W0, hW0, hsz0, hb0, hB⟩ := tab_box w (.slice ra n.rows.length rcap) (.slice ca n.cls.length ccap) (.slice ea n.exc.length ecap) a c t (.slice la ln lc)
  have ck : W0.cell? ⟨b, off + i, none⟩ = some (.int .i32 (l.getD i 0)) := by
    obtain ⟨av, cap, e1, h⟩ := hR
    obtain ⟨b', off', e2, q⟩ := h i hi
    obtain ⟨e3, -, -⟩ : some (⟨b, off, none⟩ : Addr) = av ∧ l.length = l.length ∧ lcap = cap := by injection e1 with x y z; exact ⟨x, y, z⟩
    rw [e2] at e3
    obtain ⟨rfl, rfl⟩ : b = b' ∧ off = off' := by simpa using e3
    exact (hb0.cell (p := ⟨b, off + i, none⟩) (lt_of_cell q)).trans q
  have HRU : Hid (Calls Tryd.prog 8 #[.int .i32 (l.getD i 0)] W0 fun e w' => e = .returned (.int .i64 3) ∧ W0 = w') := by
    have h := rule_any (l.getD i 0) W0
    rw [hk] at h
    exact h
  have hi0 : decide ((i : Int) < 0) = false := decide_eq_false (by omega)
  have hi1 : decide ((l.length : Int) ≤ (i : Int)) = false := decide_eq_false (by omega)
  have hi2 : decide (l.length ≤ i) = false := decide_eq_false (by omega)
  have hil : (i : Int) < (l.length : Int) := by omega
  have HB := Hid.mk' hb0
  have _u := Hid.mk' (And.intro hC (And.intro hlc (And.intro hm (And.intro ha (And.intro hT (And.intro ho hl))))))
  have eS : ∀ args w, (callFunc 18 args).run Tryd.prog w = .ok (.enter 18 args) w := enters_of Tryd.func18 (by kernel_rfl) rfl
  have HV : Hid (∀ W y, Below W0.heap.size W0 W → _) := fun W y hb => stands_any 18 #[] isL (.slice (some ⟨b, off, none⟩) l.length lcap) l y W (hR.below (hb0.trans (hb.mono hb0.size))) (by omega) eS (smallF_any W)
  unfold TV
  generalize l.getD i 0 = x at *
  have hq1 : Hid (∀ y, y = (i : Int) - 1 → standsB l y isL = standsB l ((i : Int) - 1) isL) := fun y e => by rw [e]
  have hq2 : Hid (∀ y, y = (i : Int) + 1 → standsB l y isL = standsB l ((i : Int) + 1) isL) := fun y e => by rw [e]
  generalize standsB l ((i : Int) - 1) isL = q1 at hq1 ⊢
  generalize standsB l ((i : Int) + 1) isL = q2 at hq2 ⊢
  clear hB hC hm ha hT ho hR hk eS
  go_enter Tryd.func9, Tryd.ntmps9
  go_wp2_with fail
  refine HRU.out.mono ?_
  rintro e w0 ⟨rfl, rfl⟩
  go_wp2_with fail
  refine (HV.out W0 _ (Below.refl _ _)).mono ?_
  rintro e w1 ⟨rfl, hb1⟩
  rw [hq1.out _ (by omega)]
  cases q1
  · go_wp2
    go_ret
    exact ⟨rfl, HB.out.trans (hb1.mono HB.out.size)⟩
  · go_wp2_with fail
    refine (HV.out w1 _ hb1).mono ?_
    rintro e w2 ⟨rfl, hb2⟩
    rw [hq2.out _ (by omega)]
    go_wp2
    go_ret
    exact ⟨ret_bool (by first | rfl | simp), HB.out.trans ((hb1.trans (hb2.mono hb1.size)).mono HB.out.size)⟩
set_option maxRecDepth 20000 in
set_option maxHeartbeats 8000000 in
theorem holds4_any (ra ca ea la : Option Addr) (rcap ccap ecap ln lc : Nat) (n : Nm) (a : Nat → Option Addr) (c : Nat → Nat) (t : Nat → List Rg) (b off lcap : Nat) (l : List Int) (i : Nat) (w : World) (hC : Tab w (.slice ca n.cls.length ccap) n.cls) (hlc : n.cls.length ≤ 2147483648) (hm : Rises n.cls) (ha : Apart n.cls) (hT : PT w a c t) (ho : ∀ i, i < 11 → Ok (t i)) (hR : Runes w (.slice (some ⟨b, off, none⟩) l.length lcap) l) (hl : l.length ≤ 1000) (hi : i < l.length) (hk : ruleM (l.getD i 0) = 4) :
    Calls Tryd.prog 9 #[TV (.slice ra n.rows.length rcap) (.slice ca n.cls.length ccap) (.slice ea n.exc.length ecap) a c t (.slice la ln lc), .slice (some ⟨b, off, none⟩) l.length lcap, .int .i64 i] w fun e w' => e = .returned (.bool (standsB l ((i : Int) + 1) (isScr (t 8) [1]))) ∧ Below w.heap.size w w' := by
  obtain ⟨W0, hW0, hsz0, hb0, hB⟩ := tab_box w (.slice ra n.rows.length rcap) (.slice ca n.cls.length ccap) (.slice ea n.exc.length ecap) a c t (.slice la ln lc)
  have ck : W0.cell? ⟨b, off + i, none⟩ = some (.int .i32 (l.getD i 0)) := by
    obtain ⟨av, cap, e1, h⟩ := hR
    obtain ⟨b', off', e2, q⟩ := h i hi
    obtain ⟨e3, -, -⟩ : some (⟨b, off, none⟩ : Addr) = av ∧ l.length = l.length ∧ lcap = cap := by injection e1 with x y z; exact ⟨x, y, z⟩
    rw [e2] at e3
    obtain ⟨rfl, rfl⟩ : b = b' ∧ off = off' := by simpa using e3
    exact (hb0.cell (p := ⟨b, off + i, none⟩) (lt_of_cell q)).trans q
  have HRU : Hid (Calls Tryd.prog 8 #[.int .i32 (l.getD i 0)] W0 fun e w' => e = .returned (.int .i64 4) ∧ W0 = w') := by
    have h := rule_any (l.getD i 0) W0
    rw [hk] at h
    exact h
  have hi0 : decide ((i : Int) < 0) = false := decide_eq_false (by omega)
  have hi1 : decide ((l.length : Int) ≤ (i : Int)) = false := decide_eq_false (by omega)
  have hi2 : decide (l.length ≤ i) = false := decide_eq_false (by omega)
  have hil : (i : Int) < (l.length : Int) := by omega
  have HB := Hid.mk' hb0
  have _u := Hid.mk' (And.intro hC (And.intro hlc (And.intro hm (And.intro ha (And.intro hT (And.intro ho hl))))))
  obtain ⟨W1, hW1⟩ : ∃ W1, W0.alloc (.cells #[.int .i64 1] 3) = W1 := ⟨_, rfl⟩
  have hsz1 : W1.heap.size = w.heap.size + 2 := by rw [← hW1, World.size_alloc, hsz0]
  have hb1 : Below W0.heap.size W0 W1 := by rw [← hW1]; exact (Below.refl _ _).alloc (Nat.le_refl _) _
  have hbw1 : Below w.heap.size w W1 := hb0.trans (hb1.mono hb0.size)
  have HO := Hid.mk' (ofScripts_any a c t (w.heap.size + 1) 1 [1] W1 (fun j hj => by
    have hj' : j < 1 := hj
    rcases (by omega : j = 0) with rfl <;> rw [← hW1, ← hsz0, World.cell?_alloc_new] <;> rfl) (by rw [hsz1]; omega) (by decide) (hT.below hbw1) ho)
  have HST : Hid (∀ F lb W y, (∀ args w, (callFunc F args).run Tryd.prog w = .ok (.enter F args) w) → Below w.heap.size w W → Tells F lb (isScr (t 8) [1]) W → _) := fun F lb W y eg hb hp => stands_any F lb _ (.slice (some ⟨b, off, none⟩) l.length lcap) l y W (hR.below hb) (by omega) eg hp
  have HBW := Hid.mk' hbw1
  have e0 : W0.cell? ⟨w.heap.size, 3, none⟩ = some (.slice (a 0) (t 0).length (c 0)) := hB.p 0 (by omega)
  have e1 : W0.cell? ⟨w.heap.size, 4, none⟩ = some (.slice (a 1) (t 1).length (c 1)) := hB.p 1 (by omega)
  have e2 : W0.cell? ⟨w.heap.size, 5, none⟩ = some (.slice (a 2) (t 2).length (c 2)) := hB.p 2 (by omega)
  have e3 : W0.cell? ⟨w.heap.size, 6, none⟩ = some (.slice (a 3) (t 3).length (c 3)) := hB.p 3 (by omega)
  have e4 : W0.cell? ⟨w.heap.size, 7, none⟩ = some (.slice (a 4) (t 4).length (c 4)) := hB.p 4 (by omega)
  have e5 : W0.cell? ⟨w.heap.size, 8, none⟩ = some (.slice (a 5) (t 5).length (c 5)) := hB.p 5 (by omega)
  have e6 : W0.cell? ⟨w.heap.size, 9, none⟩ = some (.slice (a 6) (t 6).length (c 6)) := hB.p 6 (by omega)
  have e7 : W0.cell? ⟨w.heap.size, 10, none⟩ = some (.slice (a 7) (t 7).length (c 7)) := hB.p 7 (by omega)
  have e8 : W0.cell? ⟨w.heap.size, 11, none⟩ = some (.slice (a 8) (t 8).length (c 8)) := hB.p 8 (by omega)
  have e9 : W0.cell? ⟨w.heap.size, 12, none⟩ = some (.slice (a 9) (t 9).length (c 9)) := hB.p 9 (by omega)
  have e10 : W0.cell? ⟨w.heap.size, 13, none⟩ = some (.slice (a 10) (t 10).length (c 10)) := hB.p 10 (by omega)
  unfold TV
  generalize l.getD i 0 = x at *
  unfold PV at HO
  simp only [List.length_cons, List.length_nil, Nat.reduceAdd] at HO
  clear hB hC hm ha hT ho hR hk hb1 hbw1 hb0
  go_enter Tryd.func9, Tryd.ntmps9
  go_wp2_with fail
  refine HRU.out.mono ?_
  rintro e w0 ⟨rfl, rfl⟩
  go_wp2_with fail
  refine HO.out.mono ?_
  rintro e w2 ⟨F, lb, rfl, eg, hTl, hb2⟩
  have hbw2 := HBW.out.trans (hb2.mono HBW.out.size)
  have HK : Hid (∀ y, _) := fun y => HST.out F lb w2 y eg hbw2 hTl
  clear e0 e1 e2 e3 e4 e5 e6 e7 e8 e9 e10 hTl eg hb2
  go_wp2_with fail
  refine (HK.out _).mono ?_
  rintro e w3 ⟨rfl, hb3⟩
  go_wp2
  go_ret
  exact ⟨ret_bool (standsB_congr (by omega)), hbw2.trans (hb3.mono hbw2.size)⟩
set_option maxRecDepth 20000 in
set_option maxHeartbeats 8000000 in
theorem holds5_any (ra ca ea la : Option Addr) (rcap ccap ecap ln lc : Nat) (n : Nm) (a : Nat → Option Addr) (c : Nat → Nat) (t : Nat → List Rg) (b off lcap : Nat) (l : List Int) (i : Nat) (w : World) (hC : Tab w (.slice ca n.cls.length ccap) n.cls) (hlc : n.cls.length ≤ 2147483648) (hm : Rises n.cls) (ha : Apart n.cls) (hT : PT w a c t) (ho : ∀ i, i < 11 → Ok (t i)) (hR : Runes w (.slice (some ⟨b, off, none⟩) l.length lcap) l) (hl : l.length ≤ 1000) (hi : i < l.length) (hk : ruleM (l.getD i 0) = 5) :
    Calls Tryd.prog 9 #[TV (.slice ra n.rows.length rcap) (.slice ca n.cls.length ccap) (.slice ea n.exc.length ecap) a c t (.slice la ln lc), .slice (some ⟨b, off, none⟩) l.length lcap, .int .i64 i] w fun e w' => e = .returned (.bool (standsB l ((i : Int) - 1) (isScr (t 8) [2]))) ∧ Below w.heap.size w w' := by
  obtain ⟨W0, hW0, hsz0, hb0, hB⟩ := tab_box w (.slice ra n.rows.length rcap) (.slice ca n.cls.length ccap) (.slice ea n.exc.length ecap) a c t (.slice la ln lc)
  have ck : W0.cell? ⟨b, off + i, none⟩ = some (.int .i32 (l.getD i 0)) := by
    obtain ⟨av, cap, e1, h⟩ := hR
    obtain ⟨b', off', e2, q⟩ := h i hi
    obtain ⟨e3, -, -⟩ : some (⟨b, off, none⟩ : Addr) = av ∧ l.length = l.length ∧ lcap = cap := by injection e1 with x y z; exact ⟨x, y, z⟩
    rw [e2] at e3
    obtain ⟨rfl, rfl⟩ : b = b' ∧ off = off' := by simpa using e3
    exact (hb0.cell (p := ⟨b, off + i, none⟩) (lt_of_cell q)).trans q
  have HRU : Hid (Calls Tryd.prog 8 #[.int .i32 (l.getD i 0)] W0 fun e w' => e = .returned (.int .i64 5) ∧ W0 = w') := by
    have h := rule_any (l.getD i 0) W0
    rw [hk] at h
    exact h
  have hi0 : decide ((i : Int) < 0) = false := decide_eq_false (by omega)
  have hi1 : decide ((l.length : Int) ≤ (i : Int)) = false := decide_eq_false (by omega)
  have hi2 : decide (l.length ≤ i) = false := decide_eq_false (by omega)
  have hil : (i : Int) < (l.length : Int) := by omega
  have HB := Hid.mk' hb0
  have _u := Hid.mk' (And.intro hC (And.intro hlc (And.intro hm (And.intro ha (And.intro hT (And.intro ho hl))))))
  obtain ⟨W1, hW1⟩ : ∃ W1, W0.alloc (.cells #[.int .i64 2] 3) = W1 := ⟨_, rfl⟩
  have hsz1 : W1.heap.size = w.heap.size + 2 := by rw [← hW1, World.size_alloc, hsz0]
  have hb1 : Below W0.heap.size W0 W1 := by rw [← hW1]; exact (Below.refl _ _).alloc (Nat.le_refl _) _
  have hbw1 : Below w.heap.size w W1 := hb0.trans (hb1.mono hb0.size)
  have HO := Hid.mk' (ofScripts_any a c t (w.heap.size + 1) 1 [2] W1 (fun j hj => by
    have hj' : j < 1 := hj
    rcases (by omega : j = 0) with rfl <;> rw [← hW1, ← hsz0, World.cell?_alloc_new] <;> rfl) (by rw [hsz1]; omega) (by decide) (hT.below hbw1) ho)
  have HST : Hid (∀ F lb W y, (∀ args w, (callFunc F args).run Tryd.prog w = .ok (.enter F args) w) → Below w.heap.size w W → Tells F lb (isScr (t 8) [2]) W → _) := fun F lb W y eg hb hp => stands_any F lb _ (.slice (some ⟨b, off, none⟩) l.length lcap) l y W (hR.below hb) (by omega) eg hp
  have HBW := Hid.mk' hbw1
  have e0 : W0.cell? ⟨w.heap.size, 3, none⟩ = some (.slice (a 0) (t 0).length (c 0)) := hB.p 0 (by omega)
  have e1 : W0.cell? ⟨w.heap.size, 4, none⟩ = some (.slice (a 1) (t 1).length (c 1)) := hB.p 1 (by omega)
  have e2 : W0.cell? ⟨w.heap.size, 5, none⟩ = some (.slice (a 2) (t 2).length (c 2)) := hB.p 2 (by omega)
  have e3 : W0.cell? ⟨w.heap.size, 6, none⟩ = some (.slice (a 3) (t 3).length (c 3)) := hB.p 3 (by omega)
  have e4 : W0.cell? ⟨w.heap.size, 7, none⟩ = some (.slice (a 4) (t 4).length (c 4)) := hB.p 4 (by omega)
  have e5 : W0.cell? ⟨w.heap.size, 8, none⟩ = some (.slice (a 5) (t 5).length (c 5)) := hB.p 5 (by omega)
  have e6 : W0.cell? ⟨w.heap.size, 9, none⟩ = some (.slice (a 6) (t 6).length (c 6)) := hB.p 6 (by omega)
  have e7 : W0.cell? ⟨w.heap.size, 10, none⟩ = some (.slice (a 7) (t 7).length (c 7)) := hB.p 7 (by omega)
  have e8 : W0.cell? ⟨w.heap.size, 11, none⟩ = some (.slice (a 8) (t 8).length (c 8)) := hB.p 8 (by omega)
  have e9 : W0.cell? ⟨w.heap.size, 12, none⟩ = some (.slice (a 9) (t 9).length (c 9)) := hB.p 9 (by omega)
  have e10 : W0.cell? ⟨w.heap.size, 13, none⟩ = some (.slice (a 10) (t 10).length (c 10)) := hB.p 10 (by omega)
  unfold TV
  generalize l.getD i 0 = x at *
  unfold PV at HO
  simp only [List.length_cons, List.length_nil, Nat.reduceAdd] at HO
  clear hB hC hm ha hT ho hR hk hb1 hbw1 hb0
  go_enter Tryd.func9, Tryd.ntmps9
  go_wp2_with fail
  refine HRU.out.mono ?_
  rintro e w0 ⟨rfl, rfl⟩
  go_wp2_with fail
  refine HO.out.mono ?_
  rintro e w2 ⟨F, lb, rfl, eg, hTl, hb2⟩
  have hbw2 := HBW.out.trans (hb2.mono HBW.out.size)
  have HK : Hid (∀ y, _) := fun y => HST.out F lb w2 y eg hbw2 hTl
  clear e0 e1 e2 e3 e4 e5 e6 e7 e8 e9 e10 hTl eg hb2
  go_wp2_with fail
  refine (HK.out _).mono ?_
  rintro e w3 ⟨rfl, hb3⟩
  go_wp2
  go_ret
  exact ⟨ret_bool (standsB_congr (by omega)), hbw2.trans (hb3.mono hbw2.size)⟩
set_option maxRecDepth 20000 in
set_option maxHeartbeats 8000000 in
theorem holds6_any (ra ca ea la : Option Addr) (rcap ccap ecap ln lc : Nat) (n : Nm) (a : Nat → Option Addr) (c : Nat → Nat) (t : Nat → List Rg) (b off lcap : Nat) (l : List Int) (i : Nat) (w : World) (hC : Tab w (.slice ca n.cls.length ccap) n.cls) (hlc : n.cls.length ≤ 2147483648) (hm : Rises n.cls) (ha : Apart n.cls) (hT : PT w a c t) (ho : ∀ i, i < 11 → Ok (t i)) (hR : Runes w (.slice (some ⟨b, off, none⟩) l.length lcap) l) (hl : l.length ≤ 1000) (hi : i < l.length) (hk : ruleM (l.getD i 0) = 6) :
    Calls Tryd.prog 9 #[TV (.slice ra n.rows.length rcap) (.slice ca n.cls.length ccap) (.slice ea n.exc.length ecap) a c t (.slice la ln lc), .slice (some ⟨b, off, none⟩) l.length lcap, .int .i64 i] w fun e w' => e = .returned (.bool (anyB l (isScr (t 8) [3, 4, 5]))) ∧ Below w.heap.size w w' := by
  obtain ⟨W0, hW0, hsz0, hb0, hB⟩ := tab_box w (.slice ra n.rows.length rcap) (.slice ca n.cls.length ccap) (.slice ea n.exc.length ecap) a c t (.slice la ln lc)
  have ck : W0.cell? ⟨b, off + i, none⟩ = some (.int .i32 (l.getD i 0)) := by
    obtain ⟨av, cap, e1, h⟩ := hR
    obtain ⟨b', off', e2, q⟩ := h i hi
    obtain ⟨e3, -, -⟩ : some (⟨b, off, none⟩ : Addr) = av ∧ l.length = l.length ∧ lcap = cap := by injection e1 with x y z; exact ⟨x, y, z⟩
    rw [e2] at e3
    obtain ⟨rfl, rfl⟩ : b = b' ∧ off = off' := by simpa using e3
    exact (hb0.cell (p := ⟨b, off + i, none⟩) (lt_of_cell q)).trans q
  have HRU : Hid (Calls Tryd.prog 8 #[.int .i32 (l.getD i 0)] W0 fun e w' => e = .returned (.int .i64 6) ∧ W0 = w') := by
    have h := rule_any (l.getD i 0) W0
    rw [hk] at h
    exact h
  have hi0 : decide ((i : Int) < 0) = false := decide_eq_false (by omega)
  have hi1 : decide ((l.length : Int) ≤ (i : Int)) = false := decide_eq_false (by omega)
  have hi2 : decide (l.length ≤ i) = false := decide_eq_false (by omega)
  have hil : (i : Int) < (l.length : Int) := by omega
  have HB := Hid.mk' hb0
  have _u := Hid.mk' (And.intro hC (And.intro hlc (And.intro hm (And.intro ha (And.intro hT (And.intro ho hl))))))
  obtain ⟨W1, hW1⟩ : ∃ W1, W0.alloc (.cells #[.int .i64 3, .int .i64 4, .int .i64 5] 3) = W1 := ⟨_, rfl⟩
  have hsz1 : W1.heap.size = w.heap.size + 2 := by rw [← hW1, World.size_alloc, hsz0]
  have hb1 : Below W0.heap.size W0 W1 := by rw [← hW1]; exact (Below.refl _ _).alloc (Nat.le_refl _) _
  have hbw1 : Below w.heap.size w W1 := hb0.trans (hb1.mono hb0.size)
  have HO := Hid.mk' (ofScripts_any a c t (w.heap.size + 1) 3 [3, 4, 5] W1 (fun j hj => by
    have hj' : j < 3 := hj
    rcases (by omega : j = 0 ∨ j = 1 ∨ j = 2) with rfl | rfl | rfl <;> rw [← hW1, ← hsz0, World.cell?_alloc_new] <;> rfl) (by rw [hsz1]; omega) (by decide) (hT.below hbw1) ho)
  have HST : Hid (∀ F lb W, (∀ args w, (callFunc F args).run Tryd.prog w = .ok (.enter F args) w) → Below w.heap.size w W → Tells F lb (isScr (t 8) [3, 4, 5]) W → _) := fun F lb W eg hb hp => containsFunc_any F lb _ (.slice (some ⟨b, off, none⟩) l.length lcap) l W (hR.below hb) (by omega) eg hp
  have HBW := Hid.mk' hbw1
  have e0 : W0.cell? ⟨w.heap.size, 3, none⟩ = some (.slice (a 0) (t 0).length (c 0)) := hB.p 0 (by omega)
  have e1 : W0.cell? ⟨w.heap.size, 4, none⟩ = some (.slice (a 1) (t 1).length (c 1)) := hB.p 1 (by omega)
  have e2 : W0.cell? ⟨w.heap.size, 5, none⟩ = some (.slice (a 2) (t 2).length (c 2)) := hB.p 2 (by omega)
  have e3 : W0.cell? ⟨w.heap.size, 6, none⟩ = some (.slice (a 3) (t 3).length (c 3)) := hB.p 3 (by omega)
  have e4 : W0.cell? ⟨w.heap.size, 7, none⟩ = some (.slice (a 4) (t 4).length (c 4)) := hB.p 4 (by omega)
  have e5 : W0.cell? ⟨w.heap.size, 8, none⟩ = some (.slice (a 5) (t 5).length (c 5)) := hB.p 5 (by omega)
  have e6 : W0.cell? ⟨w.heap.size, 9, none⟩ = some (.slice (a 6) (t 6).length (c 6)) := hB.p 6 (by omega)
  have e7 : W0.cell? ⟨w.heap.size, 10, none⟩ = some (.slice (a 7) (t 7).length (c 7)) := hB.p 7 (by omega)
  have e8 : W0.cell? ⟨w.heap.size, 11, none⟩ = some (.slice (a 8) (t 8).length (c 8)) := hB.p 8 (by omega)
  have e9 : W0.cell? ⟨w.heap.size, 12, none⟩ = some (.slice (a 9) (t 9).length (c 9)) := hB.p 9 (by omega)
  have e10 : W0.cell? ⟨w.heap.size, 13, none⟩ = some (.slice (a 10) (t 10).length (c 10)) := hB.p 10 (by omega)
  unfold TV
  generalize l.getD i 0 = x at *
  unfold PV at HO
  simp only [List.length_cons, List.length_nil, Nat.reduceAdd] at HO
  clear hB hC hm ha hT ho hR hk hb1 hbw1 hb0
  go_enter Tryd.func9, Tryd.ntmps9
  go_wp2_with fail
  refine HRU.out.mono ?_
  rintro e w0 ⟨rfl, rfl⟩
  go_wp2_with fail
  refine HO.out.mono ?_
  rintro e w2 ⟨F, lb, rfl, eg, hTl, hb2⟩
  have hbw2 := HBW.out.trans (hb2.mono HBW.out.size)
  have HK := Hid.mk' (HST.out F lb w2 eg hbw2 hTl)
  clear e0 e1 e2 e3 e4 e5 e6 e7 e8 e9 e10 hTl eg hb2
  go_wp2_with fail
  refine HK.out.mono ?_
  rintro e w3 ⟨rfl, hb3⟩
  go_wp2
  go_ret
  exact ⟨rfl, hbw2.trans (hb3.mono hbw2.size)⟩
set_option maxRecDepth 20000 in
set_option maxHeartbeats 8000000 in
theorem holds7_any (ra ca ea la : Option Addr) (rcap ccap ecap ln lc : Nat) (n : Nm) (a : Nat → Option Addr) (c : Nat → Nat) (t : Nat → List Rg) (b off lcap : Nat) (l : List Int) (i : Nat) (w : World) (hC : Tab w (.slice ca n.cls.length ccap) n.cls) (hlc : n.cls.length ≤ 2147483648) (hm : Rises n.cls) (ha : Apart n.cls) (hT : PT w a c t) (ho : ∀ i, i < 11 → Ok (t i)) (hR : Runes w (.slice (some ⟨b, off, none⟩) l.length lcap) l) (hl : l.length ≤ 1000) (hi : i < l.length) (hk : ruleM (l.getD i 0) = 7) :
    Calls Tryd.prog 9 #[TV (.slice ra n.rows.length rcap) (.slice ca n.cls.length ccap) (.slice ea n.exc.length ecap) a c t (.slice la ln lc), .slice (some ⟨b, off, none⟩) l.length lcap, .int .i64 i] w fun e w' => e = .returned (.bool (!(anyB l (isRule 7)) || !(anyB l (isRule 8)))) ∧ Below w.heap.size w w' := by
  obtain ⟨W0, hW0, hsz0, hb0, hB⟩ := tab_box w (.slice ra n.rows.length rcap) (.slice ca n.cls.length ccap) (.slice ea n.exc.length ecap) a c t (.slice la ln lc)
  have ck : W0.cell? ⟨b, off + i, none⟩ = some (.int .i32 (l.getD i 0)) := by
    obtain ⟨av, cap, e1, h⟩ := hR
    obtain ⟨b', off', e2, q⟩ := h i hi
    obtain ⟨e3, -, -⟩ : some (⟨b, off, none⟩ : Addr) = av ∧ l.length = l.length ∧ lcap = cap := by injection e1 with x y z; exact ⟨x, y, z⟩
    rw [e2] at e3
    obtain ⟨rfl, rfl⟩ : b = b' ∧ off = off' := by simpa using e3
    exact (hb0.cell (p := ⟨b, off + i, none⟩) (lt_of_cell q)).trans q
  have HRU : Hid (Calls Tryd.prog 8 #[.int .i32 (l.getD i 0)] W0 fun e w' => e = .returned (.int .i64 7) ∧ W0 = w') := by
    have h := rule_any (l.getD i 0) W0
    rw [hk] at h
    exact h
  have hi0 : decide ((i : Int) < 0) = false := decide_eq_false (by omega)
  have hi1 : decide ((l.length : Int) ≤ (i : Int)) = false := decide_eq_false (by omega)
  have hi2 : decide (l.length ≤ i) = false := decide_eq_false (by omega)
  have hil : (i : Int) < (l.length : Int) := by omega
  have HB := Hid.mk' hb0
  have _u := Hid.mk' (And.intro hC (And.intro hlc (And.intro hm (And.intro ha (And.intro hT (And.intro ho hl))))))
  have HO : Hid (∀ (k : Nat) W, _) := fun k W => ofRule_any k W
  have HST : Hid (∀ F lb (k : Nat) W, (∀ args w, (callFunc F args).run Tryd.prog w = .ok (.enter F args) w) → Below w.heap.size w W → Tells F lb (isRule k) W → _) := fun F lb k W eg hb hp => containsFunc_any F lb (isRule k) (.slice (some ⟨b, off, none⟩) l.length lcap) l W (hR.below hb) (by omega) eg hp
  obtain ⟨q7, hq7⟩ : ∃ q, anyB l (isRule 7) = q := ⟨_, rfl⟩
  obtain ⟨q8, hq8⟩ : ∃ q, anyB l (isRule 8) = q := ⟨_, rfl⟩
  rw [hq7, hq8]
  have H7 := Hid.mk' hq7
  have H8 := Hid.mk' hq8
  unfold TV
  generalize l.getD i 0 = x at *
  clear hB hC hm ha hT ho hR hk hq7 hq8
  go_enter Tryd.func9, Tryd.ntmps9
  go_wp2_with fail
  refine HRU.out.mono ?_
  rintro e w0 ⟨rfl, rfl⟩
  go_wp2_with fail
  refine (HO.out 7 W0).mono ?_
  rintro e w1 ⟨F, lb, rfl, eg, hTl, hb1⟩
  have hbw1 := HB.out.trans (hb1.mono HB.out.size)
  have HK := Hid.mk' (HST.out F lb 7 w1 eg hbw1 hTl)
  clear hTl eg hb1
  go_wp2_with fail
  refine HK.out.mono ?_
  rintro e w2 ⟨rfl, hb2⟩
  have hbw2 := hbw1.trans (hb2.mono hbw1.size)
  clear HK hb2
  rw [H7.out]
  cases q7
  · go_wp2
    go_ret
    exact ⟨rfl, hbw2⟩
  · go_wp2_with fail
    refine (HO.out 8 w2).mono ?_
    rintro e w3 ⟨F, lb, rfl, eg, hTl, hb3⟩
    have hbw3 := hbw2.trans (hb3.mono hbw2.size)
    have HK := Hid.mk' (HST.out F lb 8 w3 eg hbw3 hTl)
    clear hTl eg hb3
    go_wp2_with fail
    refine HK.out.mono ?_
    rintro e w4 ⟨rfl, hb4⟩
    rw [H8.out]
    go_wp2
    go_ret
    exact ⟨ret_bool (by first | rfl | simp), hbw3.trans (hb4.mono hbw3.size)⟩
set_option maxRecDepth 20000 in
set_option maxHeartbeats 8000000 in
theorem holds8_any (ra ca ea la : Option Addr) (rcap ccap ecap ln lc : Nat) (n : Nm) (a : Nat → Option Addr) (c : Nat → Nat) (t : Nat → List Rg) (b off lcap : Nat) (l : List Int) (i : Nat) (w : World) (hC : Tab w (.slice ca n.cls.length ccap) n.cls) (hlc : n.cls.length ≤ 2147483648) (hm : Rises n.cls) (ha : Apart n.cls) (hT : PT w a c t) (ho : ∀ i, i < 11 → Ok (t i)) (hR : Runes w (.slice (some ⟨b, off, none⟩) l.length lcap) l) (hl : l.length ≤ 1000) (hi : i < l.length) (hk : ruleM (l.getD i 0) = 8) :
    Calls Tryd.prog 9 #[TV (.slice ra n.rows.length rcap) (.slice ca n.cls.length ccap) (.slice ea n.exc.length ecap) a c t (.slice la ln lc), .slice (some ⟨b, off, none⟩) l.length lcap, .int .i64 i] w fun e w' => e = .returned (.bool (!(anyB l (isRule 7)) || !(anyB l (isRule 8)))) ∧ Below w.heap.size w w' := by
  obtain ⟨W0, hW0, hsz0, hb0, hB⟩ := tab_box w (.slice ra n.rows.length rcap) (.slice ca n.cls.length ccap) (.slice ea n.exc.length ecap) a c t (.slice la ln lc)
  have ck : W0.cell? ⟨b, off + i, none⟩ = some (.int .i32 (l.getD i 0)) := by
    obtain ⟨av, cap, e1, h⟩ := hR
    obtain ⟨b', off', e2, q⟩ := h i hi
    obtain ⟨e3, -, -⟩ : some (⟨b, off, none⟩ : Addr) = av ∧ l.length = l.length ∧ lcap = cap := by injection e1 with x y z; exact ⟨x, y, z⟩
    rw [e2] at e3
    obtain ⟨rfl, rfl⟩ : b = b' ∧ off = off' := by simpa using e3
    exact (hb0.cell (p := ⟨b, off + i, none⟩) (lt_of_cell q)).trans q
  have HRU : Hid (Calls Tryd.prog 8 #[.int .i32 (l.getD i 0)] W0 fun e w' => e = .returned (.int .i64 8) ∧ W0 = w') := by
    have h := rule_any (l.getD i 0) W0
    rw [hk] at h
    exact h
  have hi0 : decide ((i : Int) < 0) = false := decide_eq_false (by omega)
  have hi1 : decide ((l.length : Int) ≤ (i : Int)) = false := decide_eq_false (by omega)
  have hi2 : decide (l.length ≤ i) = false := decide_eq_false (by omega)
  have hil : (i : Int) < (l.length : Int) := by omega
  have HB := Hid.mk' hb0
  have _u := Hid.mk' (And.intro hC (And.intro hlc (And.intro hm (And.intro ha (And.intro hT (And.intro ho hl))))))
  have HO : Hid (∀ (k : Nat) W, _) := fun k W => ofRule_any k W
  have HST : Hid (∀ F lb (k : Nat) W, (∀ args w, (callFunc F args).run Tryd.prog w = .ok (.enter F args) w) → Below w.heap.size w W → Tells F lb (isRule k) W → _) := fun F lb k W eg hb hp => containsFunc_any F lb (isRule k) (.slice (some ⟨b, off, none⟩) l.length lcap) l W (hR.below hb) (by omega) eg hp
  obtain ⟨q7, hq7⟩ : ∃ q, anyB l (isRule 7) = q := ⟨_, rfl⟩
  obtain ⟨q8, hq8⟩ : ∃ q, anyB l (isRule 8) = q := ⟨_, rfl⟩
  rw [hq7, hq8]
  have H7 := Hid.mk' hq7
  have H8 := Hid.mk' hq8
  unfold TV
  generalize l.getD i 0 = x at *
  clear hB hC hm ha hT ho hR hk hq7 hq8
  go_enter Tryd.func9, Tryd.ntmps9
  go_wp2_with fail
  refine HRU.out.mono ?_
  rintro e w0 ⟨rfl, rfl⟩
  go_wp2_with fail
  refine (HO.out 7 W0).mono ?_
  rintro e w1 ⟨F, lb, rfl, eg, hTl, hb1⟩
  have hbw1 := HB.out.trans (hb1.mono HB.out.size)
  have HK := Hid.mk' (HST.out F lb 7 w1 eg hbw1 hTl)
  clear hTl eg hb1
  go_wp2_with fail
  refine HK.out.mono ?_
  rintro e w2 ⟨rfl, hb2⟩
  have hbw2 := hbw1.trans (hb2.mono hbw1.size)
  clear HK hb2
  rw [H7.out]
  cases q7
  · go_wp2
    go_ret
    exact ⟨rfl, hbw2⟩
  · go_wp2_with fail
    refine (HO.out 8 w2).mono ?_
    rintro e w3 ⟨F, lb, rfl, eg, hTl, hb3⟩
    have hbw3 := hbw2.trans (hb3.mono hbw2.size)
    have HK := Hid.mk' (HST.out F lb 8 w3 eg hbw3 hTl)
    clear hTl eg hb3
    go_wp2_with fail
    refine HK.out.mono ?_
    rintro e w4 ⟨rfl, hb4⟩
    rw [H8.out]
    go_wp2
    go_ret
    exact ⟨ret_bool (by first | rfl | simp), hbw3.trans (hb4.mono hbw3.size)⟩
/-- DOES THE RULE OF A RUNE HOLD? (what is said of the first rule: that it is told) -/
theorem holds_any (ra ca ea la : Option Addr) (rcap ccap ecap ln lc : Nat) (n : Nm) (a : Nat → Option Addr) (c : Nat → Nat) (t : Nat → List Rg) (b off lcap : Nat) (l : List Int) (i : Nat) (w : World) (hC : Tab w (.slice ca n.cls.length ccap) n.cls) (hlc : n.cls.length ≤ 2147483648) (hm : Rises n.cls) (ha : Apart n.cls) (hT : PT w a c t) (ho : ∀ i, i < 11 → Ok (t i)) (hR : Runes w (.slice (some ⟨b, off, none⟩) l.length lcap) l) (hl : l.length ≤ 1000) (hi : i < l.length) :
    Calls Tryd.prog 9 #[TV (.slice ra n.rows.length rcap) (.slice ca n.cls.length ccap) (.slice ea n.exc.length ecap) a c t (.slice la ln lc), .slice (some ⟨b, off, none⟩) l.length lcap, .int .i64 i] w fun e w' => ∃ q, e = .returned (.bool q) ∧ (ruleM (l.getD i 0) ≠ 1 → q = holdsM n.cls (t 8) l i) ∧ Below w.heap.size w w' := by
  have hle := ruleM_le (l.getD i 0)
  rcases (by omega : ruleM (l.getD i 0) = 0 ∨ ruleM (l.getD i 0) = 1 ∨ ruleM (l.getD i 0) = 2 ∨ ruleM (l.getD i 0) = 3 ∨ ruleM (l.getD i 0) = 4 ∨ ruleM (l.getD i 0) = 5 ∨ ruleM (l.getD i 0) = 6 ∨ ruleM (l.getD i 0) = 7 ∨ ruleM (l.getD i 0) = 8) with hk | hk | hk | hk | hk | hk | hk | hk | hk
  · refine (holds0_any ra ca ea la rcap ccap ecap ln lc n a c t b off lcap l i w hC hlc hm ha hT ho hR hl hi hk).mono ?_
    rintro e w' ⟨rfl, hb⟩
    exact ⟨_, rfl, fun _ => by unfold holdsM; rw [hk]; simp, hb⟩
  · refine (holds1_any ra ca ea la rcap ccap ecap ln lc n a c t b off lcap l i w hC hlc hm ha hT ho hR hl hi hk).mono ?_
    rintro e w' ⟨⟨q, rfl⟩, hb⟩
    exact ⟨q, rfl, fun h => absurd hk h, hb⟩
  · refine (holds2_any ra ca ea la rcap ccap ecap ln lc n a c t b off lcap l i w hC hlc hm ha hT ho hR hl hi hk).mono ?_
    rintro e w' ⟨rfl, hb⟩
    exact ⟨_, rfl, fun _ => by unfold holdsM; rw [hk]; simp, hb⟩
  · refine (holds3_any ra ca ea la rcap ccap ecap ln lc n a c t b off lcap l i w hC hlc hm ha hT ho hR hl hi hk).mono ?_
    rintro e w' ⟨rfl, hb⟩
    exact ⟨_, rfl, fun _ => by unfold holdsM; rw [hk]; simp, hb⟩
  · refine (holds4_any ra ca ea la rcap ccap ecap ln lc n a c t b off lcap l i w hC hlc hm ha hT ho hR hl hi hk).mono ?_
    rintro e w' ⟨rfl, hb⟩
    exact ⟨_, rfl, fun _ => by unfold holdsM; rw [hk]; simp, hb⟩
  · refine (holds5_any ra ca ea la rcap ccap ecap ln lc n a c t b off lcap l i w hC hlc hm ha hT ho hR hl hi hk).mono ?_
    rintro e w' ⟨rfl, hb⟩
    exact ⟨_, rfl, fun _ => by unfold holdsM; rw [hk]; simp, hb⟩
  · refine (holds6_any ra ca ea la rcap ccap ecap ln lc n a c t b off lcap l i w hC hlc hm ha hT ho hR hl hi hk).mono ?_
    rintro e w' ⟨rfl, hb⟩
    exact ⟨_, rfl, fun _ => by unfold holdsM; rw [hk]; simp, hb⟩
  · refine (holds7_any ra ca ea la rcap ccap ecap ln lc n a c t b off lcap l i w hC hlc hm ha hT ho hR hl hi hk).mono ?_
    rintro e w' ⟨rfl, hb⟩
    exact ⟨_, rfl, fun _ => by unfold holdsM; rw [hk]; simp, hb⟩
  · refine (holds8_any ra ca ea la rcap ccap ecap ln lc n a c t b off lcap l i w hC hlc hm ha hT ho hR hl hi hk).mono ?_
    rintro e w' ⟨rfl, hb⟩
    exact ⟨_, rfl, fun _ => by unfold holdsM; rw [hk]; simp, hb⟩
end Go.Proofs.YtlnehhfljjeifaaDoor
namespace Go.Proofs.YtlnehhfljjeifaaDoor
open Go.RowKit Go.Shelf

theorem holdsZ_any (b lcap : Nat) (l : List Int) (i : Nat) (w : World) (hR : Runes w (.slice (some ⟨b, 0, none⟩) l.length lcap) l) (hl : l.length ≤ 1000) (hi : i < l.length) (h1 : ruleM (l.getD i 0) ≠ 1) :
    Calls Tryd.prog 9 #[.agg #[.slice none 0 0, .slice none 0 0, .slice none 0 0, .slice none 0 0, .slice none 0 0, .slice none 0 0, .slice none 0 0, .slice none 0 0, .slice none 0 0, .slice none 0 0, .slice none 0 0, .slice none 0 0, .slice none 0 0, .slice none 0 0, .slice none 0 0], .slice (some ⟨b, 0, none⟩) l.length lcap, .int .i64 i] w fun e w' => e = .returned (.bool (holdsM [] [] l i)) ∧ Below w.heap.size w w' := by
  have hT0 : Tab w (.slice none 0 0) [] := ⟨none, 0, rfl, fun j hj => by simp at hj⟩
  refine (holds_any none none none none 0 0 0 0 0 ⟨[], [], []⟩ (fun _ => none) (fun _ => 0) (fun _ => []) b 0 lcap l i w hT0 (by simp) (fun i j h1 h2 => by simp at h2) (fun i j h1 h2 => by simp at h2) (fun i _ => hT0) (fun i _ => ok_nil) hR hl hi).mono ?_
  rintro e w' ⟨q, rfl, hq, hb⟩
  exact ⟨ret_bool (hq h1), hb⟩
set_option maxRecDepth 20000 in
set_option maxHeartbeats 4000000 in
theorem awake8_any (w : World) :
    Calls Tryd.prog 5 #[] w fun e w' => e = .returned (.bool true) ∧ Below w.heap.size w w' := by
  obtain ⟨W1, hW1⟩ : ∃ W1, w.alloc (.cells #[.int .i32 108, .int .i32 183, .int .i32 108] 21) = W1 := ⟨_, rfl⟩
  have hb1 : Below w.heap.size w W1 := by rw [← hW1]; exact (Below.refl _ _).alloc (Nat.le_refl _) _
  have r1 : Runes W1 (.slice (some ⟨w.heap.size, 0, none⟩) 3 3) [108, 183, 108] := ⟨some ⟨w.heap.size, 0, none⟩, 3, rfl, fun j hj => ⟨w.heap.size, 0, rfl, by
    have hj' : j < 3 := hj
    rcases (by omega : j = 0 ∨ j = 1 ∨ j = 2) with rfl | rfl | rfl <;> rw [← hW1, World.cell?_alloc_new] <;> rfl⟩⟩
  have H1 : Hid (Calls Tryd.prog 9 #[.agg #[.slice none 0 0, .slice none 0 0, .slice none 0 0, .slice none 0 0, .slice none 0 0, .slice none 0 0, .slice none 0 0, .slice none 0 0, .slice none 0 0, .slice none 0 0, .slice none 0 0, .slice none 0 0, .slice none 0 0, .slice none 0 0, .slice none 0 0], .slice (some ⟨w.heap.size, 0, none⟩) 3 3, .int .i64 1] W1 fun e w' => e = .returned (.bool true) ∧ Below W1.heap.size W1 w') :=
    holdsZ_any w.heap.size 3 [108, 183, 108] 1 W1 r1 (by decide) (by decide) (by decide)
  have H2 : Hid (∀ W2 W3, Below W1.heap.size W1 W2 → W2.alloc (.cells #[.int .i32 108, .int .i32 183] 21) = W3 → (Calls Tryd.prog 9 #[.agg #[.slice none 0 0, .slice none 0 0, .slice none 0 0, .slice none 0 0, .slice none 0 0, .slice none 0 0, .slice none 0 0, .slice none 0 0, .slice none 0 0, .slice none 0 0, .slice none 0 0, .slice none 0 0, .slice none 0 0, .slice none 0 0, .slice none 0 0], .slice (some ⟨W2.heap.size, 0, none⟩) 2 2, .int .i64 1] W3 fun e w' => e = .returned (.bool false) ∧ Below W3.heap.size W3 w')) := fun W2 W3 hb e => by
    have r2 : Runes W3 (.slice (some ⟨W2.heap.size, 0, none⟩) 2 2) [108, 183] := ⟨some ⟨W2.heap.size, 0, none⟩, 2, rfl, fun j hj => ⟨W2.heap.size, 0, rfl, by
      have hj' : j < 2 := hj
      rcases (by omega : j = 0 ∨ j = 1) with rfl | rfl <;> rw [← e, World.cell?_alloc_new] <;> rfl⟩⟩
    exact holdsZ_any W2.heap.size 2 [108, 183] 1 W3 r2 (by decide) (by decide) (by decide)
  have HB := Hid.mk' hb1
  clear r1 hb1
  go_enter Tryd.func5, Tryd.ntmps5
  go_wp2_with fail
  refine H1.out.mono ?_
  rintro e w2 ⟨rfl, hb2⟩
  obtain ⟨W3, hW3⟩ : ∃ W3, w2.alloc (.cells #[.int .i32 108, .int .i32 183] 21) = W3 := ⟨_, rfl⟩
  have H3 := Hid.mk' (H2.out w2 W3 hb2 hW3)
  have hbw2 := HB.out.trans (hb2.mono HB.out.size)
  have hbw3 : Below w.heap.size w W3 := by rw [← hW3]; exact hbw2.alloc hbw2.size _
  clear H1 H2 hb2 hbw2
  go_wp2_with fail
  refine H3.out.mono ?_
  rintro e w4 ⟨rfl, hb4⟩
  go_wp2
  go_ret
  exact ⟨rfl, hbw3.trans (hb4.mono hbw3.size)⟩
end Go.Proofs.YtlnehhfljjeifaaDoor

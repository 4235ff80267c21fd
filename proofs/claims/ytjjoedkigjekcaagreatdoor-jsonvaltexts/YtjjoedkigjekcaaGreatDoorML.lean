/-
  What is proved here: slices.EqualFunc at values and at members, if Equal tells of their values; what jsonval.equalMembers answers. · what jsonval.Equal answers at right values.
-/
import Derived.Test.YtjjoedkigjekcaaGreatDoorKK
import Derived.Test.YtjjoedkigjekcaaGreatDoorJC
import Derived.Test.YtjjoedkigjekcaaGreatDoorJD
import Derived.Test.YtjjoedkigjekcaaGreatDoorJE
namespace Go.Proofs.YtjjoedkigjekcaaGreatDoor
open Go.RowKit

/-- what is asked of Equal at a value -/
def EqAt (t : J) : Prop := ∀ (t' : J) (cs cs' : List Value) (w : World), VJ w t cs → VJ w t' cs' → weight t' ≤ 4000 → Good gd t' →
  Calls Tryz.prog 24 #[.agg cs.toArray, .agg cs'.toArray] w fun e w' => (∃ z : Bool, e = .returned (.bool z) ∧ (z = true ↔ Eqv t t')) ∧ Below w.heap.size w w'
theorem enters_equal : ∀ args w, (callFunc 24 args).run Tryz.prog w = .ok (.enter 24 args) w := enters_of Tryz.func24 (by kernel_rfl) rfl
theorem enters_equalM : ∀ args w, (callFunc 47 args).run Tryz.prog w = .ok (.enter 47 args) w := enters_of Tryz.func47 (by kernel_rfl) rfl
/-- elements as they lie -/
def ElAt (w : World) (a : Option Addr) (l : List J) : Prop := ∀ j t, l[j]? = some t → ∃ ba oa ds, a = some ⟨ba, oa, none⟩ ∧ CellsAt w ba (oa + j * 4) ds 4 ∧ VJ w t ds
theorem ElAt.below {w w' : World} {a : Option Addr} {l : List J} (h : ElAt w a l) (hb : Below w.heap.size w w') : ElAt w' a l := fun j x hj => by
  obtain ⟨bb, ob, ds, e, h1, h2⟩ := h j x hj
  exact ⟨bb, ob, ds, e, h1.below hb, h2.below hb⟩
set_option maxRecDepth 20000 in
set_option maxHeartbeats 8000000 in
theorem equalFuncV_of (l l' : List J) (ih : ∀ t ∈ l, EqAt t) (hg' : ∀ t ∈ l', Good gd t) (hw' : ∀ t ∈ l', weight t ≤ 4000) (hl : l.length ≤ 100000) (a a' : Option Addr) (ca ca' : Nat) (w : World) (hL : ElAt w a l) (hL' : ElAt w a' l') :
    Calls Tryz.prog 44 #[.slice a l.length ca, .slice a' l'.length ca', .func (.func 24) #[] #[]] w fun e w' => (∃ z : Bool, e = .returned (.bool z) ∧ (z = true ↔ (l.length = l'.length ∧ ∀ (j : Nat) x y, l[j]? = some x → l'[j]? = some y → Eqv x y))) ∧ Below w.heap.size w w' := by
  by_cases hne : l.length ≠ l'.length
  · have hb : ((l.length : Int) != (l'.length : Int)) = true := by rw [bne_iff_ne]; omega
    have hb2 : (l.length != l'.length) = true := by rw [bne_iff_ne]; exact hne
    have HF : Hid (false = true ↔ (l.length = l'.length ∧ ∀ (j : Nat) x y, l[j]? = some x → l'[j]? = some y → Eqv x y)) := ⟨fun h => by simp at h, fun h => absurd h.1 hne⟩
    clear hL hL' ih hg' hw' hne
    go_enter Tryz.func44, Tryz.ntmps44
    go_wp2
    go_ret
    exact ⟨⟨false, rfl, HF.out⟩, Below.refl _ _⟩
  have heq : l'.length = l.length := by omega
  have eg := enters_equal
  have HLL : Hid (∀ (j : Nat) (t t' : J), l[j]? = some t → l'[j]? = some t' → ∃ (ba oa : Nat) (q0 : Int) (q1 : ByteArray) (q2 : Option Addr) (x2 y2 : Nat) (q3 : Option Addr) (x3 y3 : Nat) (ba' oa' : Nat) (r0 : Int) (r1 : ByteArray) (r2 : Option Addr) (u2 v2 : Nat) (r3 : Option Addr) (u3 v3 : Nat), (a = some ⟨ba, oa, none⟩ ∧ a' = some ⟨ba', oa', none⟩) ∧ ∀ W, Below w.heap.size w W → (W.cell? ⟨ba, oa + j * 4, none⟩ = some (.int .i64 q0) ∧ W.cell? ⟨ba, oa + j * 4 + 1, none⟩ = some (.string q1) ∧ W.cell? ⟨ba, oa + j * 4 + 2, none⟩ = some (.slice q2 x2 y2) ∧ W.cell? ⟨ba, oa + j * 4 + 3, none⟩ = some (.slice q3 x3 y3)) ∧ (W.cell? ⟨ba', oa' + j * 4, none⟩ = some (.int .i64 r0) ∧ W.cell? ⟨ba', oa' + j * 4 + 1, none⟩ = some (.string r1) ∧ W.cell? ⟨ba', oa' + j * 4 + 2, none⟩ = some (.slice r2 u2 v2) ∧ W.cell? ⟨ba', oa' + j * 4 + 3, none⟩ = some (.slice r3 u3 v3)) ∧ Calls Tryz.prog 24 #[.agg #[.int .i64 q0, .string q1, .slice q2 x2 y2, .slice q3 x3 y3], .agg #[.int .i64 r0, .string r1, .slice r2 u2 v2, .slice r3 u3 v3]] W fun e w' => (∃ z : Bool, e = .returned (.bool z) ∧ (z = true ↔ Eqv t t')) ∧ Below W.heap.size W w') := fun j t t' hj hj' => by
    obtain ⟨ba, oa, q0, q1, q2, x2, y2, q3, x3, y3, e, h⟩ := elem_full hL hj
    obtain ⟨ba', oa', r0, r1, r2, u2, v2, r3, u3, v3, e', h'⟩ := elem_full hL' hj'
    exact ⟨ba, oa, q0, q1, q2, x2, y2, q3, x3, y3, ba', oa', r0, r1, r2, u2, v2, r3, u3, v3, ⟨e, e'⟩, fun W hb => ⟨(h W hb).1, (h' W hb).1, ih t (List.mem_of_getElem? hj) t' _ _ W (h W hb).2 (h' W hb).2 (hw' t' (List.mem_of_getElem? hj')) (hg' t' (List.mem_of_getElem? hj'))⟩⟩
  have HT : Hid (∀ W W', Below w.heap.size w W → Below W.heap.size W W' → Below w.heap.size w W') := below_tr
  have HX : Hid (∀ j, j < l.length → ∃ t t', l[j]? = some t ∧ l'[j]? = some t') := fun j hj => ⟨_, _, List.getElem?_eq_getElem hj, List.getElem?_eq_getElem (by omega)⟩
  have HEND : Hid ((∀ j, j < l.length → ∀ x y, l[j]? = some x → l'[j]? = some y → Eqv x y) → (true = true ↔ (l.length = l'.length ∧ ∀ (j : Nat) x y, l[j]? = some x → l'[j]? = some y → Eqv x y))) := fun h => ⟨fun _ => ⟨heq.symm, fun j x y hx hy => h j (List.getElem?_eq_some_iff.1 hx).1 x y hx hy⟩, fun _ => rfl⟩
  have HBAD : Hid (∀ (j : Nat) (t t' : J), l[j]? = some t → l'[j]? = some t' → ¬ Eqv t t' → (false = true ↔ (l.length = l'.length ∧ ∀ (j : Nat) x y, l[j]? = some x → l'[j]? = some y → Eqv x y))) := fun j t t' h1 h2 h3 => ⟨fun h => by simp at h, fun h => absurd (h.2 j t t' h1 h2) h3⟩
  have hst : Below w.heap.size w w := Below.refl _ _
  have hself : ((l.length : Int) != (l.length : Int)) = false := by simp
  obtain ⟨PP, hPP⟩ : ∃ PP : Prop, (l.length = l'.length ∧ ∀ (j : Nat) x y, l[j]? = some x → l'[j]? = some y → Eqv x y) = PP := ⟨_, rfl⟩
  rw [hPP] at HEND HBAD ⊢
  obtain ⟨n, hn⟩ : ∃ n, l.length = n := ⟨_, rfl⟩
  rw [heq]
  rw [hn] at HX HEND hl hself ⊢
  clear hL hL' ih hg' hw' hne heq hPP hn
  go_enter Tryz.func44, Tryz.ntmps44
  go_wp2
  go_loopw [17] (fun x17 wr => ∃ j : Nat, x17 = .int .i64 j ∧ j ≤ n ∧ Hid (∀ i, i < j → ∀ x y, l[i]? = some x → l'[i]? = some y → Eqv x y) ∧ Below w.heap.size w wr) (fun x17 _ => n - (intOf x17).toNat)
  case atStart => exact ⟨0, rfl, Nat.zero_le _, Hid.mk' (fun i hi => by omega), hst⟩
  case round =>
    clear hst
    obtain ⟨j, rfl, hj, HP, hbr⟩ := hrel
    by_cases hlt : j < n
    · obtain ⟨t, t', ht, ht'⟩ := HX.out j hlt
      obtain ⟨ba, oa, q0, q1, q2, x2, y2, q3, x3, y3, ba', oa', r0, r1, r2, u2, v2, r3, u3, v3, ⟨rfl, rfl⟩, HC⟩ := HLL.out j t t' ht ht'
      obtain ⟨⟨g0, g1, g2, g3⟩, -, -⟩ := HC _ hbr
      obtain ⟨W2, hW2, hsz2, hb2, p0, p1, p2, p3⟩ := val_box wr (.int .i64 q0) (.string q1) (.slice q2 x2 y2) (.slice q3 x3 y3)
      have hz2 := HT.out _ _ hbr hb2
      obtain ⟨-, ⟨k0, k1, k2, k3⟩, -⟩ := HC _ hz2
      obtain ⟨W3, hW3, hsz3, hb3, o0, o1, o2, o3⟩ := val_box W2 (.int .i64 r0) (.string r1) (.slice r2 u2 v2) (.slice r3 u3 v3)
      have hz3 := HT.out _ _ hz2 hb3
      obtain ⟨-, -, hcc⟩ := HC _ hz3
      have HCC := Hid.mk' hcc
      have m0 := (hb3.cell (p := ⟨wr.heap.size, 0, none⟩) (lt_of_cell p0)).trans p0
      have m1 := (hb3.cell (p := ⟨wr.heap.size, 1, none⟩) (lt_of_cell p1)).trans p1
      have m2 := (hb3.cell (p := ⟨wr.heap.size, 2, none⟩) (lt_of_cell p2)).trans p2
      have m3 := (hb3.cell (p := ⟨wr.heap.size, 3, none⟩) (lt_of_cell p3)).trans p3
      rw [hsz2] at o0 o1 o2 o3
      have HPN : Hid (Eqv t t' → ∀ i, i < j + 1 → ∀ x y, l[i]? = some x → l'[i]? = some y → Eqv x y) := fun h i hi x y hx hy => by
        rcases Nat.lt_or_ge i j with g | g
        · exact HP.out i g x y hx hy
        · obtain rfl : i = j := by omega
          rw [ht] at hx
          rw [ht'] at hy
          cases hx
          cases hy
          exact h
      have HBD := Hid.mk' (HBAD.out j t t' ht ht')
      generalize Eqv t t' = EE at *
      clear HC hcc ht ht' HLL HX HP HBAD hb2 hb3 hbr
      go_wp2_with fail
      refine HCC.out.mono ?_
      rintro e w4 ⟨⟨z, rfl, hz⟩, hb4⟩
      have hz4 := HT.out _ _ hz3 hb4
      clear HCC g0 g1 g2 g3 k0 k1 k2 k3 p0 p1 p2 p3 o0 o1 o2 o3 m0 m1 m2 m3 hz2 hz3 hb4
      cases z with
      | true =>
        have HP2 := Hid.mk' (HPN.out (hz.1 rfl))
        clear HPN HBD hz
        go_wp2
        go_roundw
        case rel => exact ⟨j + 1, by go_num, by omega, HP2, hz4⟩
        case measure => simp [intOf]; omega
      | false =>
        have HF := Hid.mk' (HBD.out (fun h => by have := hz.2 h; simp at this))
        clear HPN HBD hz
        go_wp2
        go_ret
        exact ⟨⟨false, rfl, HF.out⟩, hz4⟩
    · obtain rfl : j = n := by omega
      have HF := Hid.mk' (HEND.out (fun i hi => HP.out i hi))
      clear HLL HX HP HBAD HEND
      go_wp2
      go_ret
      exact ⟨⟨true, rfl, by simpa using HF.out⟩, hbr⟩
set_option maxRecDepth 20000 in
set_option maxHeartbeats 4000000 in
theorem equalMembers_of (x y : List UInt8 × J) (ih : EqAt x.2) (hg : Good gd y.2) (hw : weight y.2 ≤ 4000) (q0 : Int) (q1 : ByteArray) (q2 : Option Addr) (x2 y2 : Nat) (q3 : Option Addr) (x3 y3 : Nat) (r0 : Int) (r1 : ByteArray) (r2 : Option Addr) (u2 v2 : Nat) (r3 : Option Addr) (u3 v3 : Nat) (w : World)
    (hv : VJ w x.2 [.int .i64 q0, .string q1, .slice q2 x2 y2, .slice q3 x3 y3]) (hv' : VJ w y.2 [.int .i64 r0, .string r1, .slice r2 u2 v2, .slice r3 u3 v3]) :
    Calls Tryz.prog 47 #[.agg #[.string (strL x.1), .int .i64 q0, .string q1, .slice q2 x2 y2, .slice q3 x3 y3], .agg #[.string (strL y.1), .int .i64 r0, .string r1, .slice r2 u2 v2, .slice r3 u3 v3]] w fun e w' => (∃ z : Bool, e = .returned (.bool z) ∧ (z = true ↔ (x.1 = y.1 ∧ Eqv x.2 y.2))) ∧ Below w.heap.size w w' := by
  obtain ⟨W1, hW1, hsz1, hb1, p0, p1, p2, p3, p4⟩ := mem_box w (.string (strL x.1)) (.int .i64 q0) (.string q1) (.slice q2 x2 y2) (.slice q3 x3 y3)
  obtain ⟨W2, hW2, hsz2, hb2, o0, o1, o2, o3, o4⟩ := mem_box W1 (.string (strL y.1)) (.int .i64 r0) (.string r1) (.slice r2 u2 v2) (.slice r3 u3 v3)
  have m0 := (hb2.cell (p := ⟨w.heap.size, 0, none⟩) (lt_of_cell p0)).trans p0
  have m1 := (hb2.cell (p := ⟨w.heap.size, 1, none⟩) (lt_of_cell p1)).trans p1
  have m2 := (hb2.cell (p := ⟨w.heap.size, 2, none⟩) (lt_of_cell p2)).trans p2
  have m3 := (hb2.cell (p := ⟨w.heap.size, 3, none⟩) (lt_of_cell p3)).trans p3
  have m4 := (hb2.cell (p := ⟨w.heap.size, 4, none⟩) (lt_of_cell p4)).trans p4
  rw [hsz1] at o0 o1 o2 o3 o4
  have hz2 := below_tr _ _ hb1 hb2
  have HC := Hid.mk' (ih y.2 _ _ W2 (hv.below hz2) (hv'.below hz2) hw hg)
  rcases text_test x.1 y.1 with ⟨he, hb⟩ | ⟨he, hb⟩
  · have HZ : Hid (∀ z : Bool, (z = true ↔ Eqv x.2 y.2) → (z = true ↔ (x.1 = y.1 ∧ Eqv x.2 y.2))) := fun z h => ⟨fun h1 => ⟨he, h.1 h1⟩, fun h1 => h.2 h1.2⟩
    generalize Eqv x.2 y.2 = EE at *
    generalize (x.1 = y.1 ∧ EE) = FF at *
    generalize strL x.1 = X at *
    generalize strL y.1 = Y at *
    clear hv hv' he hg ih hb1 hb2 hw
    go_enter Tryz.func47, Tryz.ntmps47
    go_wp2_with fail
    refine HC.out.mono ?_
    rintro e w3 ⟨⟨z, rfl, hz⟩, hb3⟩
    have hz3 := below_tr _ _ hz2 hb3
    have HF := Hid.mk' (HZ.out z hz)
    clear HC HZ hz hb3 hz2 m0 m1 m2 m3 m4 o0 o1 o2 o3 o4 p0 p1 p2 p3 p4
    cases z
    all_goals
      go_wp2
      go_ret
      exact ⟨⟨_, rfl, by simpa using HF.out⟩, hz3⟩
  · have HZ : Hid (false = true ↔ (x.1 = y.1 ∧ Eqv x.2 y.2)) := ⟨fun h => by simp at h, fun h => absurd h.1 he⟩
    generalize (x.1 = y.1 ∧ Eqv x.2 y.2) = FF at *
    generalize strL x.1 = X at *
    generalize strL y.1 = Y at *
    clear hv hv' he hg ih hb1 hb2 hw HC
    go_enter Tryz.func47, Tryz.ntmps47
    go_wp2
    go_ret
    exact ⟨⟨false, rfl, HZ.out⟩, hz2⟩
set_option maxRecDepth 20000 in
set_option maxHeartbeats 8000000 in
theorem equalFuncM_of (l l' : List (List UInt8 × J)) (ih : ∀ t ∈ l, EqAt t.2) (hg' : ∀ t ∈ l', Good gd t.2) (hw' : ∀ t ∈ l', weight t.2 ≤ 4000) (hl : l.length ≤ 100000) (a a' : Option Addr) (ca ca' : Nat) (w : World) (hL : MemAt w a l) (hL' : MemAt w a' l') :
    Calls Tryz.prog 45 #[.slice a l.length ca, .slice a' l'.length ca', .func (.func 47) #[] #[]] w fun e w' => (∃ z : Bool, e = .returned (.bool z) ∧ (z = true ↔ (l.length = l'.length ∧ ∀ (j : Nat) x y, l[j]? = some x → l'[j]? = some y → (x.1 = y.1 ∧ Eqv x.2 y.2)))) ∧ Below w.heap.size w w' := by
  by_cases hne : l.length ≠ l'.length
  · have hb : ((l.length : Int) != (l'.length : Int)) = true := by rw [bne_iff_ne]; omega
    have hb2 : (l.length != l'.length) = true := by rw [bne_iff_ne]; exact hne
    have HF : Hid (false = true ↔ (l.length = l'.length ∧ ∀ (j : Nat) x y, l[j]? = some x → l'[j]? = some y → (x.1 = y.1 ∧ Eqv x.2 y.2))) := ⟨fun h => by simp at h, fun h => absurd h.1 hne⟩
    clear hL hL' ih hg' hw' hne
    go_enter Tryz.func45, Tryz.ntmps45
    go_wp2
    go_ret
    exact ⟨⟨false, rfl, HF.out⟩, Below.refl _ _⟩
  have heq : l'.length = l.length := by omega
  have eg := enters_equalM
  have HLL : Hid (∀ (j : Nat) (t t' : List UInt8 × J), l[j]? = some t → l'[j]? = some t' → ∃ (ba oa : Nat) (q0 : Int) (q1 : ByteArray) (q2 : Option Addr) (x2 y2 : Nat) (q3 : Option Addr) (x3 y3 : Nat) (ba' oa' : Nat) (r0 : Int) (r1 : ByteArray) (r2 : Option Addr) (u2 v2 : Nat) (r3 : Option Addr) (u3 v3 : Nat), (a = some ⟨ba, oa, none⟩ ∧ a' = some ⟨ba', oa', none⟩) ∧ ∀ W, Below w.heap.size w W → (W.cell? ⟨ba, oa + j * 5, none⟩ = some (.string (strL t.1)) ∧ W.cell? ⟨ba, oa + j * 5 + 1, none⟩ = some (.int .i64 q0) ∧ W.cell? ⟨ba, oa + j * 5 + 2, none⟩ = some (.string q1) ∧ W.cell? ⟨ba, oa + j * 5 + 3, none⟩ = some (.slice q2 x2 y2) ∧ W.cell? ⟨ba, oa + j * 5 + 4, none⟩ = some (.slice q3 x3 y3)) ∧ (W.cell? ⟨ba', oa' + j * 5, none⟩ = some (.string (strL t'.1)) ∧ W.cell? ⟨ba', oa' + j * 5 + 1, none⟩ = some (.int .i64 r0) ∧ W.cell? ⟨ba', oa' + j * 5 + 2, none⟩ = some (.string r1) ∧ W.cell? ⟨ba', oa' + j * 5 + 3, none⟩ = some (.slice r2 u2 v2) ∧ W.cell? ⟨ba', oa' + j * 5 + 4, none⟩ = some (.slice r3 u3 v3)) ∧ Calls Tryz.prog 47 #[.agg #[.string (strL t.1), .int .i64 q0, .string q1, .slice q2 x2 y2, .slice q3 x3 y3], .agg #[.string (strL t'.1), .int .i64 r0, .string r1, .slice r2 u2 v2, .slice r3 u3 v3]] W fun e w' => (∃ z : Bool, e = .returned (.bool z) ∧ (z = true ↔ (t.1 = t'.1 ∧ Eqv t.2 t'.2))) ∧ Below W.heap.size W w') := fun j t t' hj hj' => by
    obtain ⟨ba, oa, q0, q1, q2, x2, y2, q3, x3, y3, e, h⟩ := memb_full hL hj
    obtain ⟨ba', oa', r0, r1, r2, u2, v2, r3, u3, v3, e', h'⟩ := memb_full hL' hj'
    exact ⟨ba, oa, q0, q1, q2, x2, y2, q3, x3, y3, ba', oa', r0, r1, r2, u2, v2, r3, u3, v3, ⟨e, e'⟩, fun W hb => ⟨(h W hb).1, (h' W hb).1, equalMembers_of t t' (ih t (List.mem_of_getElem? hj)) (hg' t' (List.mem_of_getElem? hj')) (hw' t' (List.mem_of_getElem? hj')) q0 q1 q2 x2 y2 q3 x3 y3 r0 r1 r2 u2 v2 r3 u3 v3 W (h W hb).2 (h' W hb).2⟩⟩
  have HT : Hid (∀ W W', Below w.heap.size w W → Below W.heap.size W W' → Below w.heap.size w W') := below_tr
  have HX : Hid (∀ j, j < l.length → ∃ t t', l[j]? = some t ∧ l'[j]? = some t') := fun j hj => ⟨_, _, List.getElem?_eq_getElem hj, List.getElem?_eq_getElem (by omega)⟩
  have HEND : Hid ((∀ j, j < l.length → ∀ x y, l[j]? = some x → l'[j]? = some y → (x.1 = y.1 ∧ Eqv x.2 y.2)) → (true = true ↔ (l.length = l'.length ∧ ∀ (j : Nat) x y, l[j]? = some x → l'[j]? = some y → (x.1 = y.1 ∧ Eqv x.2 y.2)))) := fun h => ⟨fun _ => ⟨heq.symm, fun j x y hx hy => h j (List.getElem?_eq_some_iff.1 hx).1 x y hx hy⟩, fun _ => rfl⟩
  have HBAD : Hid (∀ (j : Nat) (t t' : List UInt8 × J), l[j]? = some t → l'[j]? = some t' → ¬ (t.1 = t'.1 ∧ Eqv t.2 t'.2) → (false = true ↔ (l.length = l'.length ∧ ∀ (j : Nat) x y, l[j]? = some x → l'[j]? = some y → (x.1 = y.1 ∧ Eqv x.2 y.2)))) := fun j t t' h1 h2 h3 => ⟨fun h => by simp at h, fun h => absurd (h.2 j t t' h1 h2) h3⟩
  have hst : Below w.heap.size w w := Below.refl _ _
  have hself : ((l.length : Int) != (l.length : Int)) = false := by simp
  obtain ⟨PP, hPP⟩ : ∃ PP : Prop, (l.length = l'.length ∧ ∀ (j : Nat) x y, l[j]? = some x → l'[j]? = some y → (x.1 = y.1 ∧ Eqv x.2 y.2)) = PP := ⟨_, rfl⟩
  rw [hPP] at HEND HBAD ⊢
  obtain ⟨n, hn⟩ : ∃ n, l.length = n := ⟨_, rfl⟩
  rw [heq]
  rw [hn] at HX HEND hl hself ⊢
  clear hL hL' ih hg' hw' hne heq hPP hn
  go_enter Tryz.func45, Tryz.ntmps45
  go_wp2
  go_loopw [17] (fun x17 wr => ∃ j : Nat, x17 = .int .i64 j ∧ j ≤ n ∧ Hid (∀ i, i < j → ∀ x y, l[i]? = some x → l'[i]? = some y → (x.1 = y.1 ∧ Eqv x.2 y.2)) ∧ Below w.heap.size w wr) (fun x17 _ => n - (intOf x17).toNat)
  case atStart => exact ⟨0, rfl, Nat.zero_le _, Hid.mk' (fun i hi => by omega), hst⟩
  case round =>
    clear hst
    obtain ⟨j, rfl, hj, HP, hbr⟩ := hrel
    by_cases hlt : j < n
    · obtain ⟨t, t', ht, ht'⟩ := HX.out j hlt
      obtain ⟨ba, oa, q0, q1, q2, x2, y2, q3, x3, y3, ba', oa', r0, r1, r2, u2, v2, r3, u3, v3, ⟨rfl, rfl⟩, HC⟩ := HLL.out j t t' ht ht'
      obtain ⟨⟨g0, g1, g2, g3, g4⟩, -, -⟩ := HC _ hbr
      obtain ⟨W2, hW2, hsz2, hb2, p0, p1, p2, p3, p4⟩ := mem_box wr (.string (strL t.1)) (.int .i64 q0) (.string q1) (.slice q2 x2 y2) (.slice q3 x3 y3)
      have hz2 := HT.out _ _ hbr hb2
      obtain ⟨-, ⟨k0, k1, k2, k3, k4⟩, -⟩ := HC _ hz2
      obtain ⟨W3, hW3, hsz3, hb3, o0, o1, o2, o3, o4⟩ := mem_box W2 (.string (strL t'.1)) (.int .i64 r0) (.string r1) (.slice r2 u2 v2) (.slice r3 u3 v3)
      have hz3 := HT.out _ _ hz2 hb3
      obtain ⟨-, -, hcc⟩ := HC _ hz3
      have HCC := Hid.mk' hcc
      have m0 := (hb3.cell (p := ⟨wr.heap.size, 0, none⟩) (lt_of_cell p0)).trans p0
      have m1 := (hb3.cell (p := ⟨wr.heap.size, 1, none⟩) (lt_of_cell p1)).trans p1
      have m2 := (hb3.cell (p := ⟨wr.heap.size, 2, none⟩) (lt_of_cell p2)).trans p2
      have m3 := (hb3.cell (p := ⟨wr.heap.size, 3, none⟩) (lt_of_cell p3)).trans p3
      have m4 := (hb3.cell (p := ⟨wr.heap.size, 4, none⟩) (lt_of_cell p4)).trans p4
      rw [hsz2] at o0 o1 o2 o3 o4
      have HPN : Hid ((t.1 = t'.1 ∧ Eqv t.2 t'.2) → ∀ i, i < j + 1 → ∀ x y, l[i]? = some x → l'[i]? = some y → (x.1 = y.1 ∧ Eqv x.2 y.2)) := fun h i hi x y hx hy => by
        rcases Nat.lt_or_ge i j with g | g
        · exact HP.out i g x y hx hy
        · obtain rfl : i = j := by omega
          rw [ht] at hx
          rw [ht'] at hy
          cases hx
          cases hy
          exact h
      have HBD := Hid.mk' (HBAD.out j t t' ht ht')
      generalize (t.1 = t'.1 ∧ Eqv t.2 t'.2) = EE at *
      generalize strL t.1 = X at *
      generalize strL t'.1 = Y at *
      clear HC hcc ht ht' HLL HX HP HBAD hb2 hb3 hbr
      go_wp2_with fail
      refine HCC.out.mono ?_
      rintro e w4 ⟨⟨z, rfl, hz⟩, hb4⟩
      have hz4 := HT.out _ _ hz3 hb4
      clear HCC g0 g1 g2 g3 g4 k0 k1 k2 k3 k4 p0 p1 p2 p3 p4 o0 o1 o2 o3 o4 m0 m1 m2 m3 m4 hz2 hz3 hb4
      cases z with
      | true =>
        have HP2 := Hid.mk' (HPN.out (hz.1 rfl))
        clear HPN HBD hz
        go_wp2
        go_roundw
        case rel => exact ⟨j + 1, by go_num, by omega, HP2, hz4⟩
        case measure => simp [intOf]; omega
      | false =>
        have HF := Hid.mk' (HBD.out (fun h => by have := hz.2 h; simp at this))
        clear HPN HBD hz
        go_wp2
        go_ret
        exact ⟨⟨false, rfl, HF.out⟩, hz4⟩
    · obtain rfl : j = n := by omega
      have HF := Hid.mk' (HEND.out (fun i hi => HP.out i hi))
      clear HLL HX HP HBAD HEND
      go_wp2
      go_ret
      exact ⟨⟨true, rfl, by simpa using HF.out⟩, hbr⟩
end Go.Proofs.YtjjoedkigjekcaaGreatDoor
namespace Go.Proofs.YtjjoedkigjekcaaGreatDoor
open Go.RowKit

theorem decided (P : Prop) : ∃ z : Bool, z = true ↔ P := by
  by_cases h : P
  · exact ⟨true, by simp [h]⟩
  · exact ⟨false, by simp [h]⟩
theorem bool_iff {z z' : Bool} {P : Prop} (h : z = true ↔ P) (h' : z' = true ↔ P) : z = z' := by
  cases z <;> cases z' <;> simp_all
set_option maxRecDepth 20000 in
set_option maxHeartbeats 16000000 in
theorem eqAt_any : ∀ t : J, weight t ≤ 4000 → Good gd t → EqAt t := by
  refine J.ind ?_
  intro k s l m ihl ihm hwt hgd t' cs cs' w hv hv' hwt' hgd'
  obtain ⟨k', s', l', m'⟩ := t'
  obtain ⟨a, ca, b, cb, rfl, hL, hM⟩ := (VJ_mk ..).1 hv
  obtain ⟨a', ca', b', cb', rfl, hL', hM'⟩ := (VJ_mk ..).1 hv'
  obtain ⟨hs1, hs2, hs3, hs4, hs5⟩ := weight_parts hwt
  obtain ⟨hs1', hs2', hs3', hs4', hs5'⟩ := weight_parts hwt'
  obtain ⟨⟨-, -, -, hn⟩, hGL, hGM⟩ := (Good_mk ..).1 hgd
  obtain ⟨⟨-, -, -, hn'⟩, hGL', hGM'⟩ := (Good_mk ..).1 hgd'
  obtain ⟨W0, hW0, hsz, hb0, ⟨e0, e1, e2, e3⟩, q0, q1, q2, q3⟩ := two_box w (.int .i64 k) (.string (strL s)) (.slice a l.length ca) (.slice b m.length cb) (.int .i64 k') (.string (strL s')) (.slice a' l'.length ca') (.slice b' m'.length cb')
  obtain ⟨P1, hP1⟩ : ∃ P1 : Prop, (l.length = l'.length ∧ ∀ (j : Nat) x y, l[j]? = some x → l'[j]? = some y → Eqv x y) = P1 := ⟨_, rfl⟩
  obtain ⟨P2, hP2⟩ : ∃ P2 : Prop, (m.length = m'.length ∧ ∀ (j : Nat) x, m[j]? = some x → ∃ (i : Nat) (y : List UInt8 × J), m'[i]? = some y ∧ y.1 = x.1 ∧ Eqv x.2 y.2) = P2 := ⟨_, rfl⟩
  obtain ⟨z1, hz1⟩ := decided P1
  obtain ⟨z2, hz2⟩ := decided P2
  have HEQ : Eqv (.mk k s l m) (.mk k' s' l' m') ↔ (k = k' ∧ s = s' ∧ P1 ∧ P2) := by
    rw [Eqv_mk, ← hP1, ← hP2]
    simp only [J.k, J.s, J.l, J.m]
    constructor
    · rintro ⟨h1, h2, h3, h4, h5, h6⟩
      exact ⟨h1, h2, ⟨h3, h5⟩, h4, h6⟩
    · rintro ⟨h1, h2, ⟨h3, h5⟩, h4, h6⟩
      exact ⟨h1, h2, h3, h4, h5, h6⟩
  have HEV : Hid (∀ W, Below W0.heap.size W0 W → Calls Tryz.prog 44 #[.slice a l.length ca, .slice a' l'.length ca', .func (.func 24) #[] #[]] W fun e w' => e = .returned (.bool z1) ∧ Below W.heap.size W w') := fun W hb => by
    have hbw := hb0.trans (hb.mono hb0.size)
    refine (equalFuncV_of l l' (fun t ht => ihl t ht (hs4 t ht) (hGL t ht)) hGL' hs4' (by omega) a a' ca ca' W (ElAt.below hL hbw) (ElAt.below hL' hbw)).mono ?_
    rintro e w' ⟨⟨z, rfl, hz⟩, hb'⟩
    rw [hP1] at hz
    exact ⟨by rw [bool_iff hz hz1], hb'⟩
  have HBA : Hid (∀ (W : World) (v : Value), Below W0.heap.size W0 W → v = .slice b m.length cb → Calls Tryz.prog 46 #[v] W fun e w' => ∃ (p : Option Addr) (c : Nat) (n : List (List UInt8 × J)), e = .returned (.slice p n.length c) ∧ Hid (n.Perm m ∧ (n.Pairwise fun x y => x.1 ≤ y.1) ∧ MemAt w' p n) ∧ Below W.heap.size W w') := fun W v hb hv => by
    subst hv
    refine (byName_any m (by omega) b cb W (MemAt.below hM (hb0.trans (hb.mono hb0.size)))).mono ?_
    rintro e w' ⟨v', n, rfl, h1, h2, ⟨p, c, rfl, h3⟩, h4⟩
    exact ⟨p, c, n, rfl, ⟨h1, h2, h3⟩, h4⟩
  have HBB : Hid (∀ (W : World) (v : Value), Below W0.heap.size W0 W → v = .slice b' m'.length cb' → Calls Tryz.prog 46 #[v] W fun e w' => ∃ (p : Option Addr) (c : Nat) (n : List (List UInt8 × J)), e = .returned (.slice p n.length c) ∧ Hid (n.Perm m' ∧ (n.Pairwise fun x y => x.1 ≤ y.1) ∧ MemAt w' p n) ∧ Below W.heap.size W w') := fun W v hb hv => by
    subst hv
    refine (byName_any m' (by omega) b' cb' W (MemAt.below hM' (hb0.trans (hb.mono hb0.size)))).mono ?_
    rintro e w' ⟨v', n, rfl, h1, h2, ⟨p, c, rfl, h3⟩, h4⟩
    exact ⟨p, c, n, rfl, ⟨h1, h2, h3⟩, h4⟩
  have HEM : Hid (∀ (WA W : World) (pA pB : Option Addr) (cA cB : Nat) (nA nB : List (List UInt8 × J)), Hid (nA.Perm m ∧ (nA.Pairwise fun x y => x.1 ≤ y.1) ∧ MemAt WA pA nA) → Below WA.heap.size WA W → Hid (nB.Perm m' ∧ (nB.Pairwise fun x y => x.1 ≤ y.1) ∧ MemAt W pB nB) → Calls Tryz.prog 45 #[.slice pA nA.length cA, .slice pB nB.length cB, .func (.func 47) #[] #[]] W fun e w' => e = .returned (.bool z2) ∧ Below W.heap.size W w') := fun WA W pA pB cA cB nA nB hA hAW hB => by
    obtain ⟨a1, a2, a3⟩ := hA.out
    obtain ⟨b1, b2, b3⟩ := hB.out
    refine (equalFuncM_of nA nB (fun x hx => ihm x (a1.mem_iff.1 hx) (by have := hs5 x (a1.mem_iff.1 hx); omega) (hGM x (a1.mem_iff.1 hx))) (fun x hx => hGM' x (b1.mem_iff.1 hx)) (fun x hx => by have := hs5' x (b1.mem_iff.1 hx); omega) (by have := a1.length_eq; omega) pA pB cA cB W (a3.below hAW) b3).mono ?_
    rintro e w' ⟨⟨z, rfl, hz⟩, hb'⟩
    rw [members_order a1 b1 a2 b2 hn hn', hP2] at hz
    exact ⟨by rw [bool_iff hz hz2], hb'⟩
  have HSS : Hid (∀ W', Below W0.heap.size W0 W' → (W'.cell? ⟨w.heap.size, 0, none⟩ = some (.int .i64 k) ∧ W'.cell? ⟨w.heap.size, 1, none⟩ = some (.string (strL s)) ∧ W'.cell? ⟨w.heap.size, 2, none⟩ = some (.slice a l.length ca) ∧ W'.cell? ⟨w.heap.size, 3, none⟩ = some (.slice b m.length cb)) ∧ (W'.cell? ⟨w.heap.size + 1, 0, none⟩ = some (.int .i64 k') ∧ W'.cell? ⟨w.heap.size + 1, 1, none⟩ = some (.string (strL s')) ∧ W'.cell? ⟨w.heap.size + 1, 2, none⟩ = some (.slice a' l'.length ca') ∧ W'.cell? ⟨w.heap.size + 1, 3, none⟩ = some (.slice b' m'.length cb'))) := fun W' hb =>
    ⟨⟨(hb.cell (lt_of_cell e0)).trans e0, (hb.cell (lt_of_cell e1)).trans e1, (hb.cell (lt_of_cell e2)).trans e2, (hb.cell (lt_of_cell e3)).trans e3⟩, (hb.cell (lt_of_cell q0)).trans q0, (hb.cell (lt_of_cell q1)).trans q1, (hb.cell (lt_of_cell q2)).trans q2, (hb.cell (lt_of_cell q3)).trans q3⟩
  have HBW : Hid (∀ W', Below W0.heap.size W0 W' → Below w.heap.size w W') := fun W' hb => hb0.trans (hb.mono hb0.size)
  have HT : Hid (∀ W W', Below W0.heap.size W0 W → Below W.heap.size W W' → Below W0.heap.size W0 W') := below_tr
  have hst : Below W0.heap.size W0 W0.drew := (Below.refl _ _).drew
  have HTX := text_test s s'
  obtain ⟨EE, hEE⟩ : ∃ EE : Prop, Eqv (.mk k s l m) (.mk k' s' l' m') = EE := ⟨_, rfl⟩
  rw [hEE] at HEQ ⊢
  clear ihl ihm hv hv' hL hM hL' hM' hwt hwt' hgd hgd' hs1 hs2 hs3 hs4 hs5 hs1' hs2' hs3' hs4' hs5' hn hn' hGL hGM hGL' hGM' hP1 hP2 hEE
  generalize strL s = S at *
  generalize strL s' = S' at *
  by_cases hk : k = k'
  rotate_left
  · have hkb : (k == k') = false := by simpa using hk
    have HF : Hid (false = true ↔ EE) := ⟨fun h => by simp at h, fun h => absurd (HEQ.1 h).1 hk⟩
    clear HEV HBA HBB HEM HTX HEQ hz1 hz2 hk
    go_enter Tryz.func24, Tryz.ntmps24
    go_wp2
    have h0 := HSS.out _ hst
    refine wp_region_held (S := (fun W' => (W'.cell? ⟨w.heap.size, 0, none⟩ = some (.int .i64 k) ∧ W'.cell? ⟨w.heap.size, 1, none⟩ = some (.string S) ∧ W'.cell? ⟨w.heap.size, 2, none⟩ = some (.slice a l.length ca) ∧ W'.cell? ⟨w.heap.size, 3, none⟩ = some (.slice b m.length cb)) ∧ (W'.cell? ⟨w.heap.size + 1, 0, none⟩ = some (.int .i64 k') ∧ W'.cell? ⟨w.heap.size + 1, 1, none⟩ = some (.string S') ∧ W'.cell? ⟨w.heap.size + 1, 2, none⟩ = some (.slice a' l'.length ca') ∧ W'.cell? ⟨w.heap.size + 1, 3, none⟩ = some (.slice b' m'.length cb')))) (by kernel_rfl) ?_
    refine wpAnyH_take (i := 0) (oi := ⟨_, _, _, _, _, _⟩) (v := ?_) rfl (by kernel_rfl) (by kernel_rfl) (by kernel_rfl) (fun _ _ _ h => h) (Or.inl ⟨by rfl, ?_⟩) h0 ?_
    rotate_left
    · (intro w hSw; (try dsimp only at hSw); go_simp; try with_reducible rfl)
    try simp only [Act.put, List.setIfInBounds_toArray, List.set_cons_zero, List.set_cons_succ]
    refine wpAnyH_take (i := 1) (oi := ⟨_, _, _, _, _, _⟩) (v := ?_) rfl (by kernel_rfl) (by kernel_rfl) (by kernel_rfl) (fun _ _ _ h => h) (Or.inl ⟨by rfl, ?_⟩) h0 ?_
    rotate_left
    · (intro w hSw; (try dsimp only at hSw); go_simp; try with_reducible rfl)
    try simp only [Act.put, List.setIfInBounds_toArray, List.set_cons_zero, List.set_cons_succ]
    refine wpAnyH_take (i := 2) (oi := ⟨_, _, _, _, _, _⟩) (v := ?_) rfl (by kernel_rfl) (by kernel_rfl) (by kernel_rfl) (fun _ _ _ h => h) (Or.inl ⟨by rfl, ?_⟩) h0 ?_
    rotate_left
    · (intro w hSw; (try dsimp only at hSw); go_simp; try with_reducible rfl)
    try simp only [Act.put, List.setIfInBounds_toArray, List.set_cons_zero, List.set_cons_succ]
    refine wpAnyH_take (i := 3) (oi := ⟨_, _, _, _, _, _⟩) (v := ?_) rfl (by kernel_rfl) (by kernel_rfl) (by kernel_rfl) (fun _ _ _ h => h) (Or.inl ⟨by rfl, ?_⟩) h0 ?_
    rotate_left
    · (intro w hSw; (try dsimp only at hSw); go_simp; try with_reducible rfl)
    try simp only [Act.put, List.setIfInBounds_toArray, List.set_cons_zero, List.set_cons_succ]
    refine wpAnyH_take (i := 4) (oi := ⟨_, _, _, _, _, _⟩) (v := ?_) rfl (by kernel_rfl) (by kernel_rfl) (by kernel_rfl) (fun _ _ _ h => h) (Or.inl ⟨by rfl, ?_⟩) h0 ?_
    rotate_left
    · (intro w hSw; (try dsimp only at hSw); go_simp; try with_reducible rfl)
    try simp only [Act.put, List.setIfInBounds_toArray, List.set_cons_zero, List.set_cons_succ]
    refine wpAnyH_take (i := 5) (oi := ⟨_, _, _, _, _, _⟩) (v := ?_) rfl (by kernel_rfl) (by kernel_rfl) (by kernel_rfl) (fun _ _ _ h => h) (Or.inl ⟨by rfl, ?_⟩) h0 ?_
    rotate_left
    · (intro w hSw; (try dsimp only at hSw); go_simp; try with_reducible rfl)
    try simp only [Act.put, List.setIfInBounds_toArray, List.set_cons_zero, List.set_cons_succ]
    refine wpAnyH_take (i := 6) (oi := ⟨_, _, _, _, _, _⟩) (v := undef) rfl (by kernel_rfl) (by kernel_rfl) (by kernel_rfl) (fun _ _ _ h => h) (Or.inr ⟨by rfl, rfl⟩) h0 ?_
    try simp only [Act.put, List.setIfInBounds_toArray, List.set_cons_zero, List.set_cons_succ]
    refine wpAnyH_take (i := 7) (oi := ⟨_, _, _, _, _, _⟩) (v := undef) rfl (by kernel_rfl) (by kernel_rfl) (by kernel_rfl) (fun _ _ _ h => h) (Or.inr ⟨by rfl, rfl⟩) h0 ?_
    try simp only [Act.put, List.setIfInBounds_toArray, List.set_cons_zero, List.set_cons_succ]
    refine wpAnyH_take (i := 8) (oi := ⟨_, _, _, _, _, _⟩) (v := undef) rfl (by kernel_rfl) (by kernel_rfl) (by kernel_rfl) (fun _ _ _ h => h) (Or.inr ⟨by rfl, rfl⟩) h0 ?_
    try simp only [Act.put, List.setIfInBounds_toArray, List.set_cons_zero, List.set_cons_succ]
    refine wpAnyH_take (i := 9) (oi := ⟨_, _, _, _, _, _⟩) (v := undef) rfl (by kernel_rfl) (by kernel_rfl) (by kernel_rfl) (fun _ _ _ h => h) (Or.inr ⟨by rfl, rfl⟩) h0 ?_
    try simp only [Act.put, List.setIfInBounds_toArray, List.set_cons_zero, List.set_cons_succ]
    refine wpAnyH_take (i := 10) (oi := ⟨_, _, _, _, _, _⟩) (v := undef) rfl (by kernel_rfl) (by kernel_rfl) (by kernel_rfl) (fun _ _ _ h => h) (Or.inr ⟨by rfl, rfl⟩) h0 ?_
    try simp only [Act.put, List.setIfInBounds_toArray, List.set_cons_zero, List.set_cons_succ]
    refine wpAnyH_take (i := 11) (oi := ⟨_, _, _, _, _, _⟩) (v := ?_) rfl (by kernel_rfl) (by kernel_rfl) (by kernel_rfl) (fun _ _ _ h => h) (Or.inl ⟨by rfl, ?_⟩) h0 ?_
    rotate_left
    · (intro w hSw; (try dsimp only at hSw); go_simp; try with_reducible rfl)
    try simp only [Act.put, List.setIfInBounds_toArray, List.set_cons_zero, List.set_cons_succ]
    refine wpAnyH_take (i := 12) (oi := ⟨_, _, _, _, _, _⟩) (v := ?_) rfl (by kernel_rfl) (by kernel_rfl) (by kernel_rfl) (fun _ _ _ h => h) (Or.inl ⟨by rfl, ?_⟩) h0 ?_
    rotate_left
    · (intro w hSw; (try dsimp only at hSw); go_simp; try with_reducible rfl)
    try simp only [Act.put, List.setIfInBounds_toArray, List.set_cons_zero, List.set_cons_succ]
    refine wpAnyH_take (i := 13) (oi := ⟨_, _, _, _, _, _⟩) (v := undef) rfl (by kernel_rfl) (by kernel_rfl) (by kernel_rfl) (fun _ _ _ h => h) (Or.inr ⟨by rfl, rfl⟩) h0 ?_
    try simp only [Act.put, List.setIfInBounds_toArray, List.set_cons_zero, List.set_cons_succ]
    refine wpAnyH_take (i := 14) (oi := ⟨_, _, _, _, _, _⟩) (v := undef) rfl (by kernel_rfl) (by kernel_rfl) (by kernel_rfl) (fun _ _ _ h => h) (Or.inr ⟨by rfl, rfl⟩) h0 ?_
    try simp only [Act.put, List.setIfInBounds_toArray, List.set_cons_zero, List.set_cons_succ]
    refine wpAnyH_take (i := 15) (oi := ⟨_, _, _, _, _, _⟩) (v := undef) rfl (by kernel_rfl) (by kernel_rfl) (by kernel_rfl) (fun _ _ _ h => h) (Or.inr ⟨by rfl, rfl⟩) h0 ?_
    try simp only [Act.put, List.setIfInBounds_toArray, List.set_cons_zero, List.set_cons_succ]
    refine wpAnyH_take (i := 16) (oi := ⟨_, _, _, _, _, _⟩) (v := undef) rfl (by kernel_rfl) (by kernel_rfl) (by kernel_rfl) (fun _ _ _ h => h) (Or.inr ⟨by rfl, rfl⟩) h0 ?_
    try simp only [Act.put, List.setIfInBounds_toArray, List.set_cons_zero, List.set_cons_succ]
    refine wpAnyH_take (i := 17) (oi := ⟨_, _, _, _, _, _⟩) (v := undef) rfl (by kernel_rfl) (by kernel_rfl) (by kernel_rfl) (fun _ _ _ h => h) (Or.inr ⟨by rfl, rfl⟩) h0 ?_
    try simp only [Act.put, List.setIfInBounds_toArray, List.set_cons_zero, List.set_cons_succ]
    refine wpAnyH_take (i := 18) (oi := ⟨_, _, _, _, _, _⟩) (v := ?_) rfl (by kernel_rfl) (by kernel_rfl) (by kernel_rfl) (fun _ _ _ h => h) (Or.inl ⟨by rfl, ?_⟩) h0 ?_
    rotate_left
    · (intro w hSw; (try dsimp only at hSw); go_simp; try with_reducible rfl)
    try simp only [Act.put, List.setIfInBounds_toArray, List.set_cons_zero, List.set_cons_succ]
    refine wpAnyH_take (i := 19) (oi := ⟨_, _, _, _, _, _⟩) (v := ?_) rfl (by kernel_rfl) (by kernel_rfl) (by kernel_rfl) (fun _ _ _ h => h) (Or.inl ⟨by rfl, ?_⟩) h0 ?_
    rotate_left
    · (intro w hSw; (try dsimp only at hSw); go_simp; try with_reducible rfl)
    try simp only [Act.put, List.setIfInBounds_toArray, List.set_cons_zero, List.set_cons_succ]
    refine wpAnyH_take (i := 20) (oi := ⟨_, _, _, _, _, _⟩) (v := undef) rfl (by kernel_rfl) (by kernel_rfl) (by kernel_rfl) (fun _ _ _ h => h) (Or.inr ⟨by rfl, rfl⟩) h0 ?_
    try simp only [Act.put, List.setIfInBounds_toArray, List.set_cons_zero, List.set_cons_succ]
    refine wpAnyH_take (i := 21) (oi := ⟨_, _, _, _, _, _⟩) (v := undef) rfl (by kernel_rfl) (by kernel_rfl) (by kernel_rfl) (fun _ _ _ h => h) (Or.inr ⟨by rfl, rfl⟩) h0 ?_
    try simp only [Act.put, List.setIfInBounds_toArray, List.set_cons_zero, List.set_cons_succ]
    refine wpAnyH_take (i := 22) (oi := ⟨_, _, _, _, _, _⟩) (v := undef) rfl (by kernel_rfl) (by kernel_rfl) (by kernel_rfl) (fun _ _ _ h => h) (Or.inr ⟨by rfl, rfl⟩) h0 ?_
    try simp only [Act.put, List.setIfInBounds_toArray, List.set_cons_zero, List.set_cons_succ]
    refine wpAnyH_take (i := 23) (oi := ⟨_, _, _, _, _, _⟩) (v := undef) rfl (by kernel_rfl) (by kernel_rfl) (by kernel_rfl) (fun _ _ _ h => h) (Or.inr ⟨by rfl, rfl⟩) h0 ?_
    try simp only [Act.put, List.setIfInBounds_toArray, List.set_cons_zero, List.set_cons_succ]
    refine wpAnyH_take (i := 24) (oi := ⟨_, _, _, _, _, _⟩) (v := undef) rfl (by kernel_rfl) (by kernel_rfl) (by kernel_rfl) (fun _ _ _ h => h) (Or.inr ⟨by rfl, rfl⟩) h0 ?_
    try simp only [Act.put, List.setIfInBounds_toArray, List.set_cons_zero, List.set_cons_succ]
    refine wpAnyH_take (i := 25) (oi := ⟨_, _, _, _, _, _⟩) (v := undef) rfl (by kernel_rfl) (by kernel_rfl) (by kernel_rfl) (fun _ _ _ h => h) (Or.inr ⟨by rfl, rfl⟩) h0 ?_
    try simp only [Act.put, List.setIfInBounds_toArray, List.set_cons_zero, List.set_cons_succ]
    refine wpAnyH_take (i := 26) (oi := ⟨_, _, _, _, _, _⟩) (v := undef) rfl (by kernel_rfl) (by kernel_rfl) (by kernel_rfl) (fun _ _ _ h => h) (Or.inr ⟨by rfl, rfl⟩) h0 ?_
    try simp only [Act.put, List.setIfInBounds_toArray, List.set_cons_zero, List.set_cons_succ]
    refine wpAnyH_take (i := 27) (oi := ⟨_, _, _, _, _, _⟩) (v := ?_) rfl (by kernel_rfl) (by kernel_rfl) (by kernel_rfl) (fun _ _ _ h => h) (Or.inl ⟨by rfl, ?_⟩) h0 ?_
    rotate_left
    · (intro w hSw; (try dsimp only at hSw); go_simp; try with_reducible rfl)
    try simp only [Act.put, List.setIfInBounds_toArray, List.set_cons_zero, List.set_cons_succ]
    refine wpAnyH_take (i := 28) (oi := ⟨_, _, _, _, _, _⟩) (v := ?_) rfl (by kernel_rfl) (by kernel_rfl) (by kernel_rfl) (fun _ _ _ h => h) (Or.inl ⟨by rfl, ?_⟩) h0 ?_
    rotate_left
    · (intro w hSw; (try dsimp only at hSw); go_simp; try with_reducible rfl)
    try simp only [Act.put, List.setIfInBounds_toArray, List.set_cons_zero, List.set_cons_succ]
    refine wpAnyH_done (by kernel_rfl) ?_ _
    go_wp2
    go_ret
    exact ⟨⟨false, rfl, by simpa using HF.out⟩, HBW.out _ hst⟩
  have hkb : (k == k') = true := by simpa using hk
  rcases HTX with ⟨hsE, hsb⟩ | ⟨hsE, hsb⟩
  rotate_left
  · have HF : Hid (false = true ↔ EE) := ⟨fun h => by simp at h, fun h => absurd (HEQ.1 h).2.1 hsE⟩
    clear HEV HBA HBB HEM HEQ hz1 hz2 hk hsE
    go_enter Tryz.func24, Tryz.ntmps24
    go_wp2
    have h0 := HSS.out _ hst
    refine wp_region_held (S := (fun W' => (W'.cell? ⟨w.heap.size, 0, none⟩ = some (.int .i64 k) ∧ W'.cell? ⟨w.heap.size, 1, none⟩ = some (.string S) ∧ W'.cell? ⟨w.heap.size, 2, none⟩ = some (.slice a l.length ca) ∧ W'.cell? ⟨w.heap.size, 3, none⟩ = some (.slice b m.length cb)) ∧ (W'.cell? ⟨w.heap.size + 1, 0, none⟩ = some (.int .i64 k') ∧ W'.cell? ⟨w.heap.size + 1, 1, none⟩ = some (.string S') ∧ W'.cell? ⟨w.heap.size + 1, 2, none⟩ = some (.slice a' l'.length ca') ∧ W'.cell? ⟨w.heap.size + 1, 3, none⟩ = some (.slice b' m'.length cb')))) (by kernel_rfl) ?_
    refine wpAnyH_take (i := 0) (oi := ⟨_, _, _, _, _, _⟩) (v := ?_) rfl (by kernel_rfl) (by kernel_rfl) (by kernel_rfl) (fun _ _ _ h => h) (Or.inl ⟨by rfl, ?_⟩) h0 ?_
    rotate_left
    · (intro w hSw; (try dsimp only at hSw); go_simp; try with_reducible rfl)
    try simp only [Act.put, List.setIfInBounds_toArray, List.set_cons_zero, List.set_cons_succ]
    refine wpAnyH_take (i := 1) (oi := ⟨_, _, _, _, _, _⟩) (v := ?_) rfl (by kernel_rfl) (by kernel_rfl) (by kernel_rfl) (fun _ _ _ h => h) (Or.inl ⟨by rfl, ?_⟩) h0 ?_
    rotate_left
    · (intro w hSw; (try dsimp only at hSw); go_simp; try with_reducible rfl)
    try simp only [Act.put, List.setIfInBounds_toArray, List.set_cons_zero, List.set_cons_succ]
    refine wpAnyH_take (i := 2) (oi := ⟨_, _, _, _, _, _⟩) (v := ?_) rfl (by kernel_rfl) (by kernel_rfl) (by kernel_rfl) (fun _ _ _ h => h) (Or.inl ⟨by rfl, ?_⟩) h0 ?_
    rotate_left
    · (intro w hSw; (try dsimp only at hSw); go_simp; try with_reducible rfl)
    try simp only [Act.put, List.setIfInBounds_toArray, List.set_cons_zero, List.set_cons_succ]
    refine wpAnyH_take (i := 3) (oi := ⟨_, _, _, _, _, _⟩) (v := ?_) rfl (by kernel_rfl) (by kernel_rfl) (by kernel_rfl) (fun _ _ _ h => h) (Or.inl ⟨by rfl, ?_⟩) h0 ?_
    rotate_left
    · (intro w hSw; (try dsimp only at hSw); go_simp; try with_reducible rfl)
    try simp only [Act.put, List.setIfInBounds_toArray, List.set_cons_zero, List.set_cons_succ]
    refine wpAnyH_take (i := 4) (oi := ⟨_, _, _, _, _, _⟩) (v := ?_) rfl (by kernel_rfl) (by kernel_rfl) (by kernel_rfl) (fun _ _ _ h => h) (Or.inl ⟨by rfl, ?_⟩) h0 ?_
    rotate_left
    · (intro w hSw; (try dsimp only at hSw); go_simp; try with_reducible rfl)
    try simp only [Act.put, List.setIfInBounds_toArray, List.set_cons_zero, List.set_cons_succ]
    refine wpAnyH_take (i := 5) (oi := ⟨_, _, _, _, _, _⟩) (v := ?_) rfl (by kernel_rfl) (by kernel_rfl) (by kernel_rfl) (fun _ _ _ h => h) (Or.inl ⟨by rfl, ?_⟩) h0 ?_
    rotate_left
    · (intro w hSw; (try dsimp only at hSw); go_simp; try with_reducible rfl)
    try simp only [Act.put, List.setIfInBounds_toArray, List.set_cons_zero, List.set_cons_succ]
    refine wpAnyH_take (i := 6) (oi := ⟨_, _, _, _, _, _⟩) (v := ?_) rfl (by kernel_rfl) (by kernel_rfl) (by kernel_rfl) (fun _ _ _ h => h) (Or.inl ⟨by rfl, ?_⟩) h0 ?_
    rotate_left
    · (intro w hSw; (try dsimp only at hSw); go_simp; try with_reducible rfl)
    try simp only [Act.put, List.setIfInBounds_toArray, List.set_cons_zero, List.set_cons_succ]
    refine wpAnyH_take (i := 7) (oi := ⟨_, _, _, _, _, _⟩) (v := ?_) rfl (by kernel_rfl) (by kernel_rfl) (by kernel_rfl) (fun _ _ _ h => h) (Or.inl ⟨by rfl, ?_⟩) h0 ?_
    rotate_left
    · (intro w hSw; (try dsimp only at hSw); go_simp; try with_reducible rfl)
    try simp only [Act.put, List.setIfInBounds_toArray, List.set_cons_zero, List.set_cons_succ]
    refine wpAnyH_take (i := 8) (oi := ⟨_, _, _, _, _, _⟩) (v := ?_) rfl (by kernel_rfl) (by kernel_rfl) (by kernel_rfl) (fun _ _ _ h => h) (Or.inl ⟨by rfl, ?_⟩) h0 ?_
    rotate_left
    · (intro w hSw; (try dsimp only at hSw); go_simp; try with_reducible rfl)
    try simp only [Act.put, List.setIfInBounds_toArray, List.set_cons_zero, List.set_cons_succ]
    refine wpAnyH_take (i := 9) (oi := ⟨_, _, _, _, _, _⟩) (v := ?_) rfl (by kernel_rfl) (by kernel_rfl) (by kernel_rfl) (fun _ _ _ h => h) (Or.inl ⟨by rfl, ?_⟩) h0 ?_
    rotate_left
    · (intro w hSw; (try dsimp only at hSw); go_simp; try with_reducible rfl)
    try simp only [Act.put, List.setIfInBounds_toArray, List.set_cons_zero, List.set_cons_succ]
    refine wpAnyH_take (i := 10) (oi := ⟨_, _, _, _, _, _⟩) (v := ?_) rfl (by kernel_rfl) (by kernel_rfl) (by kernel_rfl) (fun _ _ _ h => h) (Or.inl ⟨by rfl, ?_⟩) h0 ?_
    rotate_left
    · (intro w hSw; (try dsimp only at hSw); go_simp; try with_reducible rfl)
    try simp only [Act.put, List.setIfInBounds_toArray, List.set_cons_zero, List.set_cons_succ]
    refine wpAnyH_take (i := 11) (oi := ⟨_, _, _, _, _, _⟩) (v := ?_) rfl (by kernel_rfl) (by kernel_rfl) (by kernel_rfl) (fun _ _ _ h => h) (Or.inl ⟨by rfl, ?_⟩) h0 ?_
    rotate_left
    · (intro w hSw; (try dsimp only at hSw); go_simp; try with_reducible rfl)
    try simp only [Act.put, List.setIfInBounds_toArray, List.set_cons_zero, List.set_cons_succ]
    refine wpAnyH_take (i := 12) (oi := ⟨_, _, _, _, _, _⟩) (v := ?_) rfl (by kernel_rfl) (by kernel_rfl) (by kernel_rfl) (fun _ _ _ h => h) (Or.inl ⟨by rfl, ?_⟩) h0 ?_
    rotate_left
    · (intro w hSw; (try dsimp only at hSw); go_simp; try with_reducible rfl)
    try simp only [Act.put, List.setIfInBounds_toArray, List.set_cons_zero, List.set_cons_succ]
    refine wpAnyH_take (i := 13) (oi := ⟨_, _, _, _, _, _⟩) (v := undef) rfl (by kernel_rfl) (by kernel_rfl) (by kernel_rfl) (fun _ _ _ h => h) (Or.inr ⟨by rfl, rfl⟩) h0 ?_
    try simp only [Act.put, List.setIfInBounds_toArray, List.set_cons_zero, List.set_cons_succ]
    refine wpAnyH_take (i := 14) (oi := ⟨_, _, _, _, _, _⟩) (v := undef) rfl (by kernel_rfl) (by kernel_rfl) (by kernel_rfl) (fun _ _ _ h => h) (Or.inr ⟨by rfl, rfl⟩) h0 ?_
    try simp only [Act.put, List.setIfInBounds_toArray, List.set_cons_zero, List.set_cons_succ]
    refine wpAnyH_take (i := 15) (oi := ⟨_, _, _, _, _, _⟩) (v := undef) rfl (by kernel_rfl) (by kernel_rfl) (by kernel_rfl) (fun _ _ _ h => h) (Or.inr ⟨by rfl, rfl⟩) h0 ?_
    try simp only [Act.put, List.setIfInBounds_toArray, List.set_cons_zero, List.set_cons_succ]
    refine wpAnyH_take (i := 16) (oi := ⟨_, _, _, _, _, _⟩) (v := undef) rfl (by kernel_rfl) (by kernel_rfl) (by kernel_rfl) (fun _ _ _ h => h) (Or.inr ⟨by rfl, rfl⟩) h0 ?_
    try simp only [Act.put, List.setIfInBounds_toArray, List.set_cons_zero, List.set_cons_succ]
    refine wpAnyH_take (i := 17) (oi := ⟨_, _, _, _, _, _⟩) (v := undef) rfl (by kernel_rfl) (by kernel_rfl) (by kernel_rfl) (fun _ _ _ h => h) (Or.inr ⟨by rfl, rfl⟩) h0 ?_
    try simp only [Act.put, List.setIfInBounds_toArray, List.set_cons_zero, List.set_cons_succ]
    refine wpAnyH_take (i := 18) (oi := ⟨_, _, _, _, _, _⟩) (v := ?_) rfl (by kernel_rfl) (by kernel_rfl) (by kernel_rfl) (fun _ _ _ h => h) (Or.inl ⟨by rfl, ?_⟩) h0 ?_
    rotate_left
    · (intro w hSw; (try dsimp only at hSw); go_simp; try with_reducible rfl)
    try simp only [Act.put, List.setIfInBounds_toArray, List.set_cons_zero, List.set_cons_succ]
    refine wpAnyH_take (i := 19) (oi := ⟨_, _, _, _, _, _⟩) (v := ?_) rfl (by kernel_rfl) (by kernel_rfl) (by kernel_rfl) (fun _ _ _ h => h) (Or.inl ⟨by rfl, ?_⟩) h0 ?_
    rotate_left
    · (intro w hSw; (try dsimp only at hSw); go_simp; try with_reducible rfl)
    try simp only [Act.put, List.setIfInBounds_toArray, List.set_cons_zero, List.set_cons_succ]
    refine wpAnyH_take (i := 20) (oi := ⟨_, _, _, _, _, _⟩) (v := undef) rfl (by kernel_rfl) (by kernel_rfl) (by kernel_rfl) (fun _ _ _ h => h) (Or.inr ⟨by rfl, rfl⟩) h0 ?_
    try simp only [Act.put, List.setIfInBounds_toArray, List.set_cons_zero, List.set_cons_succ]
    refine wpAnyH_take (i := 21) (oi := ⟨_, _, _, _, _, _⟩) (v := undef) rfl (by kernel_rfl) (by kernel_rfl) (by kernel_rfl) (fun _ _ _ h => h) (Or.inr ⟨by rfl, rfl⟩) h0 ?_
    try simp only [Act.put, List.setIfInBounds_toArray, List.set_cons_zero, List.set_cons_succ]
    refine wpAnyH_take (i := 22) (oi := ⟨_, _, _, _, _, _⟩) (v := undef) rfl (by kernel_rfl) (by kernel_rfl) (by kernel_rfl) (fun _ _ _ h => h) (Or.inr ⟨by rfl, rfl⟩) h0 ?_
    try simp only [Act.put, List.setIfInBounds_toArray, List.set_cons_zero, List.set_cons_succ]
    refine wpAnyH_take (i := 23) (oi := ⟨_, _, _, _, _, _⟩) (v := undef) rfl (by kernel_rfl) (by kernel_rfl) (by kernel_rfl) (fun _ _ _ h => h) (Or.inr ⟨by rfl, rfl⟩) h0 ?_
    try simp only [Act.put, List.setIfInBounds_toArray, List.set_cons_zero, List.set_cons_succ]
    refine wpAnyH_take (i := 24) (oi := ⟨_, _, _, _, _, _⟩) (v := undef) rfl (by kernel_rfl) (by kernel_rfl) (by kernel_rfl) (fun _ _ _ h => h) (Or.inr ⟨by rfl, rfl⟩) h0 ?_
    try simp only [Act.put, List.setIfInBounds_toArray, List.set_cons_zero, List.set_cons_succ]
    refine wpAnyH_take (i := 25) (oi := ⟨_, _, _, _, _, _⟩) (v := undef) rfl (by kernel_rfl) (by kernel_rfl) (by kernel_rfl) (fun _ _ _ h => h) (Or.inr ⟨by rfl, rfl⟩) h0 ?_
    try simp only [Act.put, List.setIfInBounds_toArray, List.set_cons_zero, List.set_cons_succ]
    refine wpAnyH_take (i := 26) (oi := ⟨_, _, _, _, _, _⟩) (v := undef) rfl (by kernel_rfl) (by kernel_rfl) (by kernel_rfl) (fun _ _ _ h => h) (Or.inr ⟨by rfl, rfl⟩) h0 ?_
    try simp only [Act.put, List.setIfInBounds_toArray, List.set_cons_zero, List.set_cons_succ]
    refine wpAnyH_take (i := 27) (oi := ⟨_, _, _, _, _, _⟩) (v := ?_) rfl (by kernel_rfl) (by kernel_rfl) (by kernel_rfl) (fun _ _ _ h => h) (Or.inl ⟨by rfl, ?_⟩) h0 ?_
    rotate_left
    · (intro w hSw; (try dsimp only at hSw); go_simp; try with_reducible rfl)
    try simp only [Act.put, List.setIfInBounds_toArray, List.set_cons_zero, List.set_cons_succ]
    refine wpAnyH_take (i := 28) (oi := ⟨_, _, _, _, _, _⟩) (v := ?_) rfl (by kernel_rfl) (by kernel_rfl) (by kernel_rfl) (fun _ _ _ h => h) (Or.inl ⟨by rfl, ?_⟩) h0 ?_
    rotate_left
    · (intro w hSw; (try dsimp only at hSw); go_simp; try with_reducible rfl)
    try simp only [Act.put, List.setIfInBounds_toArray, List.set_cons_zero, List.set_cons_succ]
    refine wpAnyH_done (by kernel_rfl) ?_ _
    go_wp2
    go_ret
    exact ⟨⟨false, rfl, by simpa using HF.out⟩, HBW.out _ hst⟩
  cases z1 with
  | false =>
    have HF : Hid (false = true ↔ EE) := ⟨fun h => by simp at h, fun h => absurd (hz1.2 (HEQ.1 h).2.2.1) (by simp)⟩
    clear HBA HBB HEM HEQ hz1 hz2 hk hsE
    go_enter Tryz.func24, Tryz.ntmps24
    go_wp2
    have h0 := HSS.out _ hst
    refine wp_region_held (S := (fun W' => (W'.cell? ⟨w.heap.size, 0, none⟩ = some (.int .i64 k) ∧ W'.cell? ⟨w.heap.size, 1, none⟩ = some (.string S) ∧ W'.cell? ⟨w.heap.size, 2, none⟩ = some (.slice a l.length ca) ∧ W'.cell? ⟨w.heap.size, 3, none⟩ = some (.slice b m.length cb)) ∧ (W'.cell? ⟨w.heap.size + 1, 0, none⟩ = some (.int .i64 k') ∧ W'.cell? ⟨w.heap.size + 1, 1, none⟩ = some (.string S') ∧ W'.cell? ⟨w.heap.size + 1, 2, none⟩ = some (.slice a' l'.length ca') ∧ W'.cell? ⟨w.heap.size + 1, 3, none⟩ = some (.slice b' m'.length cb')))) (by kernel_rfl) ?_
    refine wpAnyH_take (i := 0) (oi := ⟨_, _, _, _, _, _⟩) (v := ?_) rfl (by kernel_rfl) (by kernel_rfl) (by kernel_rfl) (fun _ _ _ h => h) (Or.inl ⟨by rfl, ?_⟩) h0 ?_
    rotate_left
    · (intro w hSw; (try dsimp only at hSw); go_simp; try with_reducible rfl)
    try simp only [Act.put, List.setIfInBounds_toArray, List.set_cons_zero, List.set_cons_succ]
    refine wpAnyH_take (i := 1) (oi := ⟨_, _, _, _, _, _⟩) (v := ?_) rfl (by kernel_rfl) (by kernel_rfl) (by kernel_rfl) (fun _ _ _ h => h) (Or.inl ⟨by rfl, ?_⟩) h0 ?_
    rotate_left
    · (intro w hSw; (try dsimp only at hSw); go_simp; try with_reducible rfl)
    try simp only [Act.put, List.setIfInBounds_toArray, List.set_cons_zero, List.set_cons_succ]
    refine wpAnyH_take (i := 2) (oi := ⟨_, _, _, _, _, _⟩) (v := ?_) rfl (by kernel_rfl) (by kernel_rfl) (by kernel_rfl) (fun _ _ _ h => h) (Or.inl ⟨by rfl, ?_⟩) h0 ?_
    rotate_left
    · (intro w hSw; (try dsimp only at hSw); go_simp; try with_reducible rfl)
    try simp only [Act.put, List.setIfInBounds_toArray, List.set_cons_zero, List.set_cons_succ]
    refine wpAnyH_take (i := 3) (oi := ⟨_, _, _, _, _, _⟩) (v := ?_) rfl (by kernel_rfl) (by kernel_rfl) (by kernel_rfl) (fun _ _ _ h => h) (Or.inl ⟨by rfl, ?_⟩) h0 ?_
    rotate_left
    · (intro w hSw; (try dsimp only at hSw); go_simp; try with_reducible rfl)
    try simp only [Act.put, List.setIfInBounds_toArray, List.set_cons_zero, List.set_cons_succ]
    refine wpAnyH_take (i := 4) (oi := ⟨_, _, _, _, _, _⟩) (v := ?_) rfl (by kernel_rfl) (by kernel_rfl) (by kernel_rfl) (fun _ _ _ h => h) (Or.inl ⟨by rfl, ?_⟩) h0 ?_
    rotate_left
    · (intro w hSw; (try dsimp only at hSw); go_simp; try with_reducible rfl)
    try simp only [Act.put, List.setIfInBounds_toArray, List.set_cons_zero, List.set_cons_succ]
    refine wpAnyH_take (i := 5) (oi := ⟨_, _, _, _, _, _⟩) (v := ?_) rfl (by kernel_rfl) (by kernel_rfl) (by kernel_rfl) (fun _ _ _ h => h) (Or.inl ⟨by rfl, ?_⟩) h0 ?_
    rotate_left
    · (intro w hSw; (try dsimp only at hSw); go_simp; try with_reducible rfl)
    try simp only [Act.put, List.setIfInBounds_toArray, List.set_cons_zero, List.set_cons_succ]
    refine wpAnyH_take (i := 6) (oi := ⟨_, _, _, _, _, _⟩) (v := ?_) rfl (by kernel_rfl) (by kernel_rfl) (by kernel_rfl) (fun _ _ _ h => h) (Or.inl ⟨by rfl, ?_⟩) h0 ?_
    rotate_left
    · (intro w hSw; (try dsimp only at hSw); go_simp; try with_reducible rfl)
    try simp only [Act.put, List.setIfInBounds_toArray, List.set_cons_zero, List.set_cons_succ]
    refine wpAnyH_take (i := 7) (oi := ⟨_, _, _, _, _, _⟩) (v := ?_) rfl (by kernel_rfl) (by kernel_rfl) (by kernel_rfl) (fun _ _ _ h => h) (Or.inl ⟨by rfl, ?_⟩) h0 ?_
    rotate_left
    · (intro w hSw; (try dsimp only at hSw); go_simp; try with_reducible rfl)
    try simp only [Act.put, List.setIfInBounds_toArray, List.set_cons_zero, List.set_cons_succ]
    refine wpAnyH_take (i := 8) (oi := ⟨_, _, _, _, _, _⟩) (v := ?_) rfl (by kernel_rfl) (by kernel_rfl) (by kernel_rfl) (fun _ _ _ h => h) (Or.inl ⟨by rfl, ?_⟩) h0 ?_
    rotate_left
    · (intro w hSw; (try dsimp only at hSw); go_simp; try with_reducible rfl)
    try simp only [Act.put, List.setIfInBounds_toArray, List.set_cons_zero, List.set_cons_succ]
    refine wpAnyH_take (i := 9) (oi := ⟨_, _, _, _, _, _⟩) (v := ?_) rfl (by kernel_rfl) (by kernel_rfl) (by kernel_rfl) (fun _ _ _ h => h) (Or.inl ⟨by rfl, ?_⟩) h0 ?_
    rotate_left
    · (intro w hSw; (try dsimp only at hSw); go_simp; try with_reducible rfl)
    try simp only [Act.put, List.setIfInBounds_toArray, List.set_cons_zero, List.set_cons_succ]
    refine wpAnyH_take (i := 10) (oi := ⟨_, _, _, _, _, _⟩) (v := ?_) rfl (by kernel_rfl) (by kernel_rfl) (by kernel_rfl) (fun _ _ _ h => h) (Or.inl ⟨by rfl, ?_⟩) h0 ?_
    rotate_left
    · (intro w hSw; (try dsimp only at hSw); go_simp; try with_reducible rfl)
    try simp only [Act.put, List.setIfInBounds_toArray, List.set_cons_zero, List.set_cons_succ]
    refine wpAnyH_take (i := 11) (oi := ⟨_, _, _, _, _, _⟩) (v := ?_) rfl (by kernel_rfl) (by kernel_rfl) (by kernel_rfl) (fun _ _ _ h => h) (Or.inl ⟨by rfl, ?_⟩) h0 ?_
    rotate_left
    · (intro w hSw; (try dsimp only at hSw); go_simp; try with_reducible rfl)
    try simp only [Act.put, List.setIfInBounds_toArray, List.set_cons_zero, List.set_cons_succ]
    refine wpAnyH_take (i := 12) (oi := ⟨_, _, _, _, _, _⟩) (v := ?_) rfl (by kernel_rfl) (by kernel_rfl) (by kernel_rfl) (fun _ _ _ h => h) (Or.inl ⟨by rfl, ?_⟩) h0 ?_
    rotate_left
    · (intro w hSw; (try dsimp only at hSw); go_simp; try with_reducible rfl)
    try simp only [Act.put, List.setIfInBounds_toArray, List.set_cons_zero, List.set_cons_succ]
    refine wpAnyH_take (i := 13) (oi := ⟨_, _, _, _, _, _⟩) (v := ?_) rfl (by kernel_rfl) (by kernel_rfl) (by kernel_rfl) (fun _ _ _ h => h) (Or.inl ⟨by rfl, ?_⟩) h0 ?_
    rotate_left
    · (intro w hSw; (try dsimp only at hSw); go_simp; try with_reducible rfl)
    try simp only [Act.put, List.setIfInBounds_toArray, List.set_cons_zero, List.set_cons_succ]
    refine wpAnyH_take (i := 14) (oi := ⟨_, _, _, _, _, _⟩) (v := ?_) rfl (by kernel_rfl) (by kernel_rfl) (by kernel_rfl) (fun _ _ _ h => h) (Or.inl ⟨by rfl, ?_⟩) h0 ?_
    rotate_left
    · (intro w hSw; (try dsimp only at hSw); go_simp; try with_reducible rfl)
    try simp only [Act.put, List.setIfInBounds_toArray, List.set_cons_zero, List.set_cons_succ]
    refine wpAnyH_take (i := 15) (oi := ⟨_, _, _, _, _, _⟩) (v := ?_) rfl (by kernel_rfl) (by kernel_rfl) (by kernel_rfl) (fun _ _ _ h => h) (Or.inl ⟨by rfl, ?_⟩) h0 ?_
    rotate_left
    · (intro w hSw; (try dsimp only at hSw); go_simp; try with_reducible rfl)
    try simp only [Act.put, List.setIfInBounds_toArray, List.set_cons_zero, List.set_cons_succ]
    refine wpAnyH_take (i := 16) (oi := ⟨_, _, _, _, _, _⟩) (v := ?_) rfl (by kernel_rfl) (by kernel_rfl) (by kernel_rfl) (fun _ _ _ h => h) (Or.inl ⟨by rfl, ?_⟩) h0 ?_
    rotate_left
    · (intro w hSw; (try dsimp only at hSw); go_simp; try with_reducible rfl)
    try simp only [Act.put, List.setIfInBounds_toArray, List.set_cons_zero, List.set_cons_succ]
    refine wpAnyH_ready (rs := [17]) (by kernel_rfl) (by simp) ?_
    refine AllReadyH.cons (o := ⟨_, _, _, _, _, _⟩) rfl (fun K hK => ?_) AllReadyH.nil
    go_simp
    go_at_call 44
    refine (HEV.out _ hst).mono ?_
    rintro e wV ⟨rfl, hbV⟩
    have hzV := HT.out _ _ hst hbV
    refine hK.out _ _ (HSS.out _ hzV) (fun hH2 => ?_)
    clear hK K
    try simp only [Act.put, List.setIfInBounds_toArray, List.set_cons_zero, List.set_cons_succ]
    refine wpAnyH_take (i := 18) (oi := ⟨_, _, _, _, _, _⟩) (v := ?_) rfl (by kernel_rfl) (by kernel_rfl) (by kernel_rfl) (fun _ _ _ h => h) (Or.inl ⟨by rfl, ?_⟩) hH2 ?_
    rotate_left
    · (intro w hSw; (try dsimp only at hSw); go_simp; try with_reducible rfl)
    try simp only [Act.put, List.setIfInBounds_toArray, List.set_cons_zero, List.set_cons_succ]
    refine wpAnyH_take (i := 19) (oi := ⟨_, _, _, _, _, _⟩) (v := ?_) rfl (by kernel_rfl) (by kernel_rfl) (by kernel_rfl) (fun _ _ _ h => h) (Or.inl ⟨by rfl, ?_⟩) hH2 ?_
    rotate_left
    · (intro w hSw; (try dsimp only at hSw); go_simp; try with_reducible rfl)
    try simp only [Act.put, List.setIfInBounds_toArray, List.set_cons_zero, List.set_cons_succ]
    refine wpAnyH_take (i := 20) (oi := ⟨_, _, _, _, _, _⟩) (v := undef) rfl (by kernel_rfl) (by kernel_rfl) (by kernel_rfl) (fun _ _ _ h => h) (Or.inr ⟨by rfl, rfl⟩) hH2 ?_
    try simp only [Act.put, List.setIfInBounds_toArray, List.set_cons_zero, List.set_cons_succ]
    refine wpAnyH_take (i := 21) (oi := ⟨_, _, _, _, _, _⟩) (v := undef) rfl (by kernel_rfl) (by kernel_rfl) (by kernel_rfl) (fun _ _ _ h => h) (Or.inr ⟨by rfl, rfl⟩) hH2 ?_
    try simp only [Act.put, List.setIfInBounds_toArray, List.set_cons_zero, List.set_cons_succ]
    refine wpAnyH_take (i := 22) (oi := ⟨_, _, _, _, _, _⟩) (v := undef) rfl (by kernel_rfl) (by kernel_rfl) (by kernel_rfl) (fun _ _ _ h => h) (Or.inr ⟨by rfl, rfl⟩) hH2 ?_
    try simp only [Act.put, List.setIfInBounds_toArray, List.set_cons_zero, List.set_cons_succ]
    refine wpAnyH_take (i := 23) (oi := ⟨_, _, _, _, _, _⟩) (v := undef) rfl (by kernel_rfl) (by kernel_rfl) (by kernel_rfl) (fun _ _ _ h => h) (Or.inr ⟨by rfl, rfl⟩) hH2 ?_
    try simp only [Act.put, List.setIfInBounds_toArray, List.set_cons_zero, List.set_cons_succ]
    refine wpAnyH_take (i := 24) (oi := ⟨_, _, _, _, _, _⟩) (v := undef) rfl (by kernel_rfl) (by kernel_rfl) (by kernel_rfl) (fun _ _ _ h => h) (Or.inr ⟨by rfl, rfl⟩) hH2 ?_
    try simp only [Act.put, List.setIfInBounds_toArray, List.set_cons_zero, List.set_cons_succ]
    refine wpAnyH_take (i := 25) (oi := ⟨_, _, _, _, _, _⟩) (v := undef) rfl (by kernel_rfl) (by kernel_rfl) (by kernel_rfl) (fun _ _ _ h => h) (Or.inr ⟨by rfl, rfl⟩) hH2 ?_
    try simp only [Act.put, List.setIfInBounds_toArray, List.set_cons_zero, List.set_cons_succ]
    refine wpAnyH_take (i := 26) (oi := ⟨_, _, _, _, _, _⟩) (v := undef) rfl (by kernel_rfl) (by kernel_rfl) (by kernel_rfl) (fun _ _ _ h => h) (Or.inr ⟨by rfl, rfl⟩) hH2 ?_
    try simp only [Act.put, List.setIfInBounds_toArray, List.set_cons_zero, List.set_cons_succ]
    refine wpAnyH_take (i := 27) (oi := ⟨_, _, _, _, _, _⟩) (v := ?_) rfl (by kernel_rfl) (by kernel_rfl) (by kernel_rfl) (fun _ _ _ h => h) (Or.inl ⟨by rfl, ?_⟩) hH2 ?_
    rotate_left
    · (intro w hSw; (try dsimp only at hSw); go_simp; try with_reducible rfl)
    try simp only [Act.put, List.setIfInBounds_toArray, List.set_cons_zero, List.set_cons_succ]
    refine wpAnyH_take (i := 28) (oi := ⟨_, _, _, _, _, _⟩) (v := ?_) rfl (by kernel_rfl) (by kernel_rfl) (by kernel_rfl) (fun _ _ _ h => h) (Or.inl ⟨by rfl, ?_⟩) hH2 ?_
    rotate_left
    · (intro w hSw; (try dsimp only at hSw); go_simp; try with_reducible rfl)
    try simp only [Act.put, List.setIfInBounds_toArray, List.set_cons_zero, List.set_cons_succ]
    refine wpAnyH_done (by kernel_rfl) ?_ _
    go_wp2
    go_ret
    exact ⟨⟨false, rfl, by simpa using HF.out⟩, HBW.out _ hzV⟩
  | true =>
    have HF : Hid (z2 = true ↔ EE) := ⟨fun h => HEQ.2 ⟨hk, hsE, hz1.1 rfl, hz2.1 h⟩, fun h => hz2.2 (HEQ.1 h).2.2.2⟩
    clear HEQ hz1 hz2 hk hsE
    go_enter Tryz.func24, Tryz.ntmps24
    go_wp2
    go_region_held3 (fun W' => (W'.cell? ⟨w.heap.size, 0, none⟩ = some (.int .i64 k) ∧ W'.cell? ⟨w.heap.size, 1, none⟩ = some (.string S) ∧ W'.cell? ⟨w.heap.size, 2, none⟩ = some (.slice a l.length ca) ∧ W'.cell? ⟨w.heap.size, 3, none⟩ = some (.slice b m.length cb)) ∧ (W'.cell? ⟨w.heap.size + 1, 0, none⟩ = some (.int .i64 k') ∧ W'.cell? ⟨w.heap.size + 1, 1, none⟩ = some (.string S') ∧ W'.cell? ⟨w.heap.size + 1, 2, none⟩ = some (.slice a' l'.length ca') ∧ W'.cell? ⟨w.heap.size + 1, 3, none⟩ = some (.slice b' m'.length cb'))) (exact HSS.out _ (by assumption)) (first
      | (go_at_call 44; refine (HEV.out _ (by assumption)).mono ?_; rintro e wV ⟨rfl, hbV⟩; have hzV := HT.out _ _ (by assumption) hbV)
      | (go_at_call 46; refine (HBA.out _ _ (by assumption) ?_).mono ?_; exact rfl; rintro e wA ⟨pA, cA, nA, rfl, hA, hbA⟩; have hzA := HT.out _ _ (by assumption) hbA)
      | (go_at_call 46; refine (HBB.out _ _ (by assumption) ?_).mono ?_; exact rfl; rintro e wB ⟨pB, cB, nB, rfl, hB, hbB⟩; have hzB := HT.out _ _ (by assumption) hbB)
      | (go_at_call 45; refine (HEM.out wA wB _ _ _ _ _ _ hA hbB hB).mono ?_; rintro e wM ⟨rfl, hbM⟩; have hzM := HT.out _ _ (by assumption) hbM))
    go_wp2
    go_ret
    exact ⟨⟨z2, by first | rfl | (cases z2 <;> rfl), by simpa using HF.out⟩, HBW.out _ (by assumption)⟩
end Go.Proofs.YtjjoedkigjekcaaGreatDoor

/-
  What is proved here: what the laws' SameTexts answers at the same texts; that PctSplits answers true at every text and every byte.
-/
import Derived.Test.YteflghhpdikidaaDoorRefS
import Derived.OpenShut
namespace Go.Proofs.YteflghhpdikidaaDoor
open Go.RowKit

set_option maxHeartbeats 1000000 in
theorem refSplit_bad (s : ByteArray) (b : UInt8) (w : World) (hb : b.toNat = 37 ∨ Pct.hex b.toNat ≠ none) :
    Calls Tryd.prog 20 #[.string s, .int .u8 b.toNat] w fun e w' => e = .returned (.tuple #[.slice none 0 0, .int .i64 0, .int .i64 1]) ∧ Below w.heap.size w w' := by
  by_cases h37 : b.toNat = 37
  · have hz : ((b.toNat : Int) == 37) = true := by simp; omega
    clear hb h37
    go_enter Tryd.func20, Tryd.ntmps20
    go_wp2
    go_ret3
    exact ⟨rfl, Below.refl _ _⟩
  · have hz : ((b.toNat : Int) == 37) = false := by simp; omega
    obtain ⟨x, hx⟩ : ∃ x, Pct.hex b.toNat = some x := Option.ne_none_iff_exists'.1 (hb.resolve_left h37)
    have HD := Hid.mk' (fun w => digit_some b.toNat x w hx)
    clear hb h37 hx
    go_enter Tryd.func20, Tryd.ntmps20
    go_wp2_with (go_at_call 27; refine (HD.out _).mono ?_; rintro e w1 ⟨rfl, rfl⟩)
    go_ret3
    exact ⟨rfl, Below.refl _ _⟩

set_option maxHeartbeats 1000000 in
theorem sameTexts_any (va vb : Value) (ss : List ByteArray) (w : World) (hl : ss.length ≤ 268435456) (ha : Texts w va ss) (hb : Texts w vb ss) :
    Calls Tryd.prog 21 #[va, vb] w fun e w' => e = .returned (.bool true) ∧ Below w.heap.size w w' := by
  obtain ⟨a, ca, rfl, ha⟩ := ha
  obtain ⟨b, cb, rfl, hb⟩ := hb
  have HA := Hid.mk' ha
  have HB := Hid.mk' hb
  clear ha hb
  go_enter Tryd.func21, Tryd.ntmps21
  go_wp2
  go_loopw [5] (fun i wr => ∃ k : Nat, k ≤ ss.length ∧ i = .int .i64 k ∧ Below w.heap.size w wr) (fun i _ => ss.length - (intOf i).toNat)
  case atStart => exact ⟨0, Nat.zero_le _, rfl, Below.refl _ _⟩
  case round =>
    obtain ⟨k, hk, rfl, hbel⟩ := hrel
    by_cases hlt : k < ss.length
    · obtain ⟨ba, oa, rfl, ca0⟩ := HA.out k hlt
      obtain ⟨bb, ob, rfl, cb0⟩ := HB.out k hlt
      have hca := (hbel.cell (p := ⟨ba, oa + k, none⟩) (lt_of_cell ca0)).trans ca0
      have hcb := (hbel.cell (p := ⟨bb, ob + k, none⟩) (lt_of_cell cb0)).trans cb0
      clear ca0 cb0
      generalize ss.getD k ByteArray.empty = r at hca hcb
      go_wp2
      go_region
      go_wp2
      go_roundw
      case rel => exact ⟨k + 1, by omega, by go_num, hbel.drew⟩
      case measure => simp [intOf]; omega
    · go_wp2
      go_ret
      exact ⟨rfl, hbel⟩
theorem texts_nil (w : World) : Texts w (.slice none 0 0) [] := ⟨none, 0, rfl, fun j hj => by simp at hj⟩
theorem spl_len (ps : List (List UInt8)) : ∀ a, (Pct.spl ps a).1.length ≤ ps.length := by
  induction ps with
  | nil => intro a; simp [Pct.spl]
  | cons p ps ih =>
    intro a
    have := ih (a + p.length + 1)
    simp only [Pct.spl]; unfold Pct.glueS
    (repeat' split) <;> simp <;> omega
theorem spl_code (ps : List (List UInt8)) : ∀ a, (Pct.spl ps a).2.2 = 0 ∨ (Pct.spl ps a).2.2 = 1 ∨ (Pct.spl ps a).2.2 = 2 := by
  induction ps with
  | nil => intro a; simp [Pct.spl]
  | cons p ps ih =>
    intro a
    have := ih (a + p.length + 1)
    have := un_code0 p 0
    simp only [Pct.spl]; unfold Pct.glueS
    (repeat' split) <;> simp <;> omega

set_option maxRecDepth 20000 in
set_option maxHeartbeats 1000000 in
theorem splits_any (w : World) (p : Nat → Addr) (hg : Gl p w) (hm : ∃ m, w.cell? ⟨19, 0, none⟩ = some (.int .i64 m)) (s : ByteArray) (hs : s.size ≤ maxLen) (bi : Int) (wb : (Lit.int .u8 bi).wf = true) :
    Calls Tryd.prog 5 #[.string s, .int .u8 bi] w fun e w' => e = .returned (.bool true) ∧ Below w.heap.size w w' := by
  have HW := Hid.mk' (awake2_any w p hg)
  unfold maxLen at hs
  obtain ⟨b, rfl⟩ : ∃ b : UInt8, bi = (b.toNat : Int) := by
    have := bounds_u8 wb
    exact ⟨UInt8.ofNat bi.toNat, by simp; omega⟩
  clear wb
  by_cases hl : 60 < s.size
  · clear hg
    go_enter Tryd.func5, Tryd.ntmps5
    go_wp2_with (go_at_call 9; refine HW.out.mono ?_; rintro e w1 ⟨rfl, hb1⟩)
    go_ret
    exact ⟨rfl, hb1⟩
  · have hmb : ∀ w1, Below w.heap.size w w1 → ∃ m, w1.cell? ⟨19, 0, none⟩ = some (.int .i64 m) := fun w1 hb => by obtain ⟨m, hm⟩ := hm; exact ⟨m, (hb.cell (lt_of_cell hm)).trans hm⟩
    have fin : (∃ ts : List ByteArray, ts.length ≤ 1001 ∧ (∀ w1, Below w.heap.size w w1 → Calls Tryd.prog 19 #[.string s, .int .u8 b.toNat] w1 fun e w' => ∃ v, e = .returned (.tuple #[v, .nilIface]) ∧ Texts w' v ts ∧ Below w1.heap.size w1 w') ∧ (∀ w1, Calls Tryd.prog 20 #[.string s, .int .u8 b.toNat] w1 fun e w' => ∃ v, e = .returned (.tuple #[v, .int .i64 0, .int .i64 0]) ∧ Texts w' v ts ∧ Below w1.heap.size w1 w')) ∨
        (∃ (a : Int) (c : Nat), (c = 1 ∨ c = 2) ∧ (∀ w1, Below w.heap.size w w1 → Calls Tryd.prog 19 #[.string s, .int .u8 b.toNat] w1 fun e w' => ∃ v, e = .returned (.tuple #[.slice none 0 0, v]) ∧ Flt w' v w1.heap.size a (p c) ∧ Below w1.heap.size w1 w') ∧ (∀ w1, Calls Tryd.prog 20 #[.string s, .int .u8 b.toNat] w1 fun e w' => e = .returned (.tuple #[.slice none 0 0, .int .i64 a, .int .i64 c]) ∧ Below w1.heap.size w1 w')) := by
      by_cases hbad : b.toNat = 37 ∨ Pct.hex b.toNat ≠ none
      · exact .inr ⟨0, 1, .inl rfl, fun w1 hb => split_bad s b w1 p (hg.below hb) hbad, fun w1 => refSplit_bad s b w1 hbad⟩
      · have h37 : b.toNat ≠ 37 := fun h => hbad (.inl h)
        have hh : Pct.hex b.toNat = none := Classical.byContradiction fun h => hbad (.inr h)
        have hcl := Pct.cut_len b s.data.toList
        have hsl : s.data.toList.length = s.size := rfl
        have hpl := spl_len (Pct.cut b s.data.toList) 0
        rcases spl_code (Pct.cut b s.data.toList) 0 with h0 | h0
        · refine .inl ⟨(Pct.spl (Pct.cut b s.data.toList) 0).1, by omega, fun w1 hb => ?_, fun w1 => ?_⟩
          · refine (split_any s b w1 p (hg.below hb) (by omega) (hmb w1 hb) h37 hh).mono ?_
            rintro e w' ⟨hb', h | h⟩
            · obtain ⟨-, v, rfl, ht⟩ := h
              exact ⟨v, rfl, ht, hb'⟩
            · exact absurd h0 h.1
          · refine (refSplit_any s b w1 (by omega) h37 hh).mono ?_
            rintro e w' ⟨hb', h | h⟩
            · obtain ⟨-, v, rfl, ht⟩ := h
              exact ⟨v, rfl, ht, hb'⟩
            · exact absurd h0 h.1
        · refine .inr ⟨((Pct.spl (Pct.cut b s.data.toList) 0).2.1 : Nat), (Pct.spl (Pct.cut b s.data.toList) 0).2.2, h0, fun w1 hb => ?_, fun w1 => ?_⟩
          · refine (split_any s b w1 p (hg.below hb) (by omega) (hmb w1 hb) h37 hh).mono ?_
            rintro e w' ⟨hb', h | h⟩
            · exact absurd h.1 (by omega)
            · obtain ⟨-, v, rfl, hf⟩ := h
              exact ⟨v, rfl, hf, hb'⟩
          · refine (refSplit_any s b w1 (by omega) h37 hh).mono ?_
            rintro e w' ⟨hb', h | h⟩
            · exact absurd h.1 (by omega)
            · exact ⟨h.2, hb'⟩
    rcases fin with ⟨ts, hrl, hT, hR⟩ | ⟨a, c, hc, hT, hR⟩
    · have HT := Hid.mk' hT
      have HR := Hid.mk' hR
      clear hg hT hR hm hmb
      go_enter Tryd.func5, Tryd.ntmps5
      go_wp2_with fail
      refine HW.out.mono ?_
      rintro e w1 ⟨rfl, hb1⟩
      go_wp2_with fail
      refine (HT.out w1 hb1).mono ?_
      rintro e w2 ⟨v, rfl, hv, hb2⟩
      go_wp2_with fail
      refine (HR.out w2).mono ?_
      rintro e w3 ⟨u, rfl, hu, hb3⟩
      have h1 := hb1.trans (hb2.mono hb1.size)
      have h2 := h1.trans (hb3.mono h1.size)
      have HS := Hid.mk' (sameTexts_any v u ts w3 (by omega) (hv.below hb3) hu)
      clear hv hu hb1 hb2 hb3 h1
      go_wp2_with (first | (go_at_call 13; refine (lawIs_none _ _).mono ?_; rintro e w4 ⟨rfl, rfl⟩) | (go_at_call 21; refine HS.out.mono ?_; rintro e w5 ⟨rfl, hb5⟩))
      go_ret
      exact ⟨rfl, h2.trans (hb5.mono h2.size)⟩
    · have HT := Hid.mk' hT
      have HR := Hid.mk' hR
      have HI : Hid (∀ w1 v B, Below w.heap.size w w1 → Flt w1 v B a (p c) → _) := fun w1 v B hb hf => lawIs_fault v B a c w1 p (hg.below hb) (by omega) hf
      clear hg hT hR hm hmb
      go_enter Tryd.func5, Tryd.ntmps5
      go_wp2_with fail
      refine HW.out.mono ?_
      rintro e w1 ⟨rfl, hb1⟩
      go_wp2_with fail
      refine (HT.out w1 hb1).mono ?_
      rintro e w2 ⟨v, rfl, hf, hb2⟩
      go_wp2_with fail
      refine (HR.out w2).mono ?_
      rintro e w3 ⟨rfl, hb3⟩
      have h1 := hb1.trans (hb2.mono hb1.size)
      have h2 := h1.trans (hb3.mono h1.size)
      have HI2 := Hid.mk' (HI.out w3 _ _ h2 (hf.below hb3))
      clear hf hb1 hb2 hb3 h1
      go_wp2_with fail
      refine HI2.out.mono ?_
      rintro e w4 ⟨rfl, hb4⟩
      have h3 := h2.trans (hb4.mono h2.size)
      have HS := Hid.mk' (sameTexts_any _ _ [] w4 (by simp) (texts_nil w4) (texts_nil w4))
      go_wp2_with (go_at_call 21; refine HS.out.mono ?_; rintro e w5 ⟨rfl, hb5⟩)
      go_ret
      exact ⟨rfl, h3.trans (hb5.mono h3.size)⟩
end Go.Proofs.YteflghhpdikidaaDoor

/-
  What is proved here: the walk of UtfOrder: it answers true at every two lists of runes.
-/
import Derived.Test.YtbpjenckkllbaaaDoorThere
import Derived.Test.YtbpjenckkllbaaaDoorOrder0
import Derived.BigQuiet
import Derived.Deep.QuietTactic
namespace Go.Proofs.YtbpjenckkllbaaaDoor
open Go.RowKit

theorem encode_some (v : Value) (rs : List Int) (w : World) (p : Nat → Addr) (hl : rs.length ≤ 268435456) (hg : Gl p w) (hv : Runes w v rs) :
    Calls Tryd.prog 17 #[v] w fun e w' => ∃ s v', e = .returned (.tuple #[.string s, v']) ∧ Below w.heap.size w w' := by
  refine (encode_any v rs w p hl hg hv).mono ?_
  rintro e w' ⟨hb, h | h⟩
  · exact ⟨_, _, h.2, hb⟩
  · obtain ⟨k, hk, h1, hn, v, rfl, _⟩ := h
    exact ⟨_, _, rfl, hb⟩

theorem Runes.atPlace {w : World} {a : Option Addr} {n cap : Nat} {rs : List Int} (h : Runes w (.slice a n cap) rs) {j : Nat} (hj : j < rs.length) : ∃ b off, a = some ⟨b, off, none⟩ ∧ w.cell? ⟨b, off + j, none⟩ = some (.int .i32 (rs.getD j 0)) := by
  obtain ⟨a', cap', e, h⟩ := h
  cases e
  exact h j hj

set_option maxHeartbeats 1000000 in
theorem order_any (w : World) (p : Nat → Addr) (hg : Gl p w) (va : Value) (ra : List Int) (hva : Runes w va ra) (hla : ra.length ≤ maxLen) (_wfa : ∀ r ∈ ra, (Lit.int .i32 r).wf = true) (vb : Value) (rb : List Int) (hvb : Runes w vb rb) (hlb : rb.length ≤ maxLen) (_wfb : ∀ r ∈ rb, (Lit.int .i32 r).wf = true) :
    Calls Tryd.prog 8 #[va, vb] w fun e w' => e = .returned (.bool true) ∧ Below w.heap.size w w' := by
  have HW := Hid.mk' (awake_any w p hg)
  have HA := Hid.mk' hva
  have HB := Hid.mk' hvb
  obtain ⟨a, ca, rfl, -⟩ := hva
  obtain ⟨b, cb, rfl, -⟩ := hvb
  unfold maxLen at hla hlb
  by_cases hl : 20 < ra.length
  · clear hg
    go_enter Tryd.func8, Tryd.ntmps8
    go_wp2_with (go_at_call 9; refine HW.out.mono ?_; rintro e w1 ⟨rfl, hb1⟩)
    go_ret
    exact ⟨rfl, hb1⟩
  by_cases hl2 : 20 < rb.length
  · clear hg
    go_enter Tryd.func8, Tryd.ntmps8
    go_wp2_with (go_at_call 9; refine HW.out.mono ?_; rintro e w1 ⟨rfl, hb1⟩)
    go_ret
    exact ⟨rfl, hb1⟩
  by_cases hra : ∀ r ∈ ra, 0 < Utf.width r
  · have HE : Hid (∀ w1, Below w.heap.size w w1 → _) := fun w1 hb => encode_ok (.slice a ra.length ca) ra w1 p (by omega) (hg.below hb) (HA.out.below hb) hra
    by_cases hrb : ∀ r ∈ rb, 0 < Utf.width r
    · have HF : Hid (∀ w1, Below w.heap.size w w1 → _) := fun w1 hb => encode_ok (.slice b rb.length cb) rb w1 p (by omega) (hg.below hb) (HB.out.below hb) hrb
      have HO : Hid (∀ k, ra.take k = rb.take k → k ≤ ra.length → k ≤ rb.length → (k = ra.length ∨ k = rb.length ∨ ra.getD k 0 ≠ rb.getD k 0) → Op.bytesLess (strOfNums (ra.flatMap Utf.form)).toList (strOfNums (rb.flatMap Utf.form)).toList = (decide (k < rb.length) && (decide (k = ra.length) || decide (ra.getD k 0 < rb.getD k 0)))) := fun k h1 h2 h3 h4 => by
        rw [ByteArray.toList_eq, ByteArray.toList_eq, u8_size, u8_size]
        exact Utf.order hra hrb h1 h2 h3 h4
      clear hg hra hrb
      generalize strOfNums (ra.flatMap Utf.form) = s at HE HO
      generalize strOfNums (rb.flatMap Utf.form) = t at HF HO
      go_enter Tryd.func8, Tryd.ntmps8
      go_wp2_with fail
      refine HW.out.mono ?_
      rintro e w1 ⟨rfl, hb1⟩
      go_wp2_with fail
      refine (HE.out w1 hb1).mono ?_
      rintro e w2 ⟨rfl, hb2⟩
      have hb3 := hb1.trans (hb2.mono hb1.size)
      go_wp2_with fail
      refine (HF.out w2 hb3).mono ?_
      rintro e w3 ⟨rfl, hb4⟩
      have hb5 := hb3.trans (hb4.mono hb3.size)
      clear hb1 hb2 hb3 hb4
      go_wp2
      go_loopw [9] (fun i wr => ∃ k : Nat, k ≤ ra.length ∧ k ≤ rb.length ∧ i = .int .i64 k ∧ Below w.heap.size w wr ∧ Hid (ra.take k = rb.take k)) (fun i _ => ra.length - (intOf i).toNat)
      case atStart => exact ⟨0, Nat.zero_le _, Nat.zero_le _, rfl, hb5, rfl⟩
      case round =>
        obtain ⟨k, hka, hkb, rfl, hbel, HT⟩ := hrel
        by_cases h1 : k < ra.length
        · obtain ⟨ba, oa, rfl, ca0⟩ := HA.out.atPlace h1
          have hca := (hbel.cell (p := ⟨ba, oa + k, none⟩) (lt_of_cell ca0)).trans ca0
          clear ca0
          by_cases h2 : k < rb.length
          · obtain ⟨bb, ob, rfl, cb0⟩ := HB.out.atPlace h2
            have hcb := (hbel.cell (p := ⟨bb, ob + k, none⟩) (lt_of_cell cb0)).trans cb0
            clear cb0
            have HX : Hid (ra.take (k + 1) = ra.take k ++ [ra.getD k 0]) := take_snoc h1
            have HY : Hid (rb.take (k + 1) = rb.take k ++ [rb.getD k 0]) := take_snoc h2
            have HO2 : Hid (ra.getD k 0 ≠ rb.getD k 0 → _) := fun hn => HO.out k HT.out hka hkb (.inr (.inr hn))
            have d1 : decide ((k : Int) < (ra.length : Int)) = true := by simpa using h1
            have d2 : decide ((k : Int) < (rb.length : Int)) = true := by simpa using h2
            generalize hx : ra.getD k 0 = x at hca HX HO2
            generalize hy : rb.getD k 0 = y at hcb HY HO2
            clear hx hy
            by_cases h3 : x = y
            · have h4 : (x == y) = true := by simpa using h3
              have HZ : Hid (x = y) := h3
              clear h3
              go_wp2
              go_quiet (fail)
              go_wp2
              go_roundw
              case rel => exact ⟨k + 1, by omega, by omega, by go_num, below_drewN hbel _, by show _ = _; rw [HX.out, HY.out, HT.out, HZ.out]⟩
              case measure => simp [intOf]; omega
            · have h4 : (x == y) = false := by simpa using h3
              have d3 : ((k : Int) == (ra.length : Int)) = false := beq_eq_false_iff_ne.2 (by omega)
              have HL := HO2.out h3
              rw [show decide (k < rb.length) = true by simpa using h2, show decide (k = ra.length) = false by simp; omega, Bool.true_and, Bool.false_or] at HL
              clear h3
              go_wp2
              go_quiet (fail)
              go_wp2
              go_quiet (fail)
              go_wp2
              go_ret
              refine ⟨ret_bool ?_, below_drewN hbel _⟩
              simp
          · have d1 : decide ((k : Int) < (ra.length : Int)) = true := by simpa using h1
            have d2 : decide ((k : Int) < (rb.length : Int)) = false := by simp; omega
            have HL := HO.out k HT.out hka hkb (.inr (.inl (by omega)))
            rw [show decide (k < rb.length) = false by simp; omega, Bool.false_and] at HL
            go_wp2
            go_quiet (fail)
            go_wp2
            go_quiet (fail)
            go_wp2
            go_ret
            refine ⟨ret_bool ?_, below_drewN hbel _⟩
            simp
        · have d1 : decide ((k : Int) < (ra.length : Int)) = false := by simp; omega
          have d3 : ((k : Int) == (ra.length : Int)) = true := beq_iff_eq.2 (by omega)
          have HL := HO.out k HT.out hka hkb (.inl (by omega))
          rw [show decide (k = ra.length) = true by simp; omega, Bool.true_or, Bool.and_true] at HL
          by_cases h2 : k < rb.length
          · have d2 : decide ((k : Int) < (rb.length : Int)) = true := by simpa using h2
            rw [show decide (k < rb.length) = true by simpa using h2] at HL
            go_wp2
            go_quiet (fail)
            go_wp2
            go_quiet (fail)
            go_wp2
            go_ret
            refine ⟨ret_bool ?_, below_drewN hbel _⟩
            simp
          · have d2 : decide ((k : Int) < (rb.length : Int)) = false := by simp; omega
            rw [show decide (k < rb.length) = false by simp; omega] at HL
            go_wp2
            go_quiet (fail)
            go_wp2
            go_quiet (fail)
            go_wp2
            go_ret
            refine ⟨ret_bool ?_, below_drewN hbel _⟩
            simp
    · have HF : Hid (∀ w1, Below w.heap.size w w1 → _) := fun w1 hb => encode_err (.slice b rb.length cb) rb w1 p (by omega) (hg.below hb) (HB.out.below hb) hrb
      clear hg hra hrb
      generalize strOfNums (ra.flatMap Utf.form) = s at HE
      go_enter Tryd.func8, Tryd.ntmps8
      go_wp2_with fail
      refine HW.out.mono ?_
      rintro e w1 ⟨rfl, hb1⟩
      go_wp2_with fail
      refine (HE.out w1 hb1).mono ?_
      rintro e w2 ⟨rfl, hb2⟩
      have hb3 := hb1.trans (hb2.mono hb1.size)
      go_wp2_with fail
      refine (HF.out w2 hb3).mono ?_
      rintro e w3 ⟨b, k, rfl, -, -, -, -, hb4⟩
      have hb5 := hb3.trans (hb4.mono hb3.size)
      go_wp2
      go_ret
      exact ⟨rfl, hb5⟩
  · have HE : Hid (∀ w1, Below w.heap.size w w1 → _) := fun w1 hb => encode_err (.slice a ra.length ca) ra w1 p (by omega) (hg.below hb) (HA.out.below hb) hra
    have HF : Hid (∀ w1, Below w.heap.size w w1 → _) := fun w1 hb => encode_some (.slice b rb.length cb) rb w1 p (by omega) (hg.below hb) (HB.out.below hb)
    clear hg hra
    go_enter Tryd.func8, Tryd.ntmps8
    go_wp2_with fail
    refine HW.out.mono ?_
    rintro e w1 ⟨rfl, hb1⟩
    go_wp2_with fail
    refine (HE.out w1 hb1).mono ?_
    rintro e w2 ⟨b, k, rfl, -, -, -, -, hb2⟩
    have hb3 := hb1.trans (hb2.mono hb1.size)
    go_wp2_with fail
    refine (HF.out w2 hb3).mono ?_
    rintro e w3 ⟨s, v', rfl, hb4⟩
    have hb5 := hb3.trans (hb4.mono hb3.size)
    go_wp2
    go_ret
    exact ⟨rfl, hb5⟩
end Go.Proofs.YtbpjenckkllbaaaDoor

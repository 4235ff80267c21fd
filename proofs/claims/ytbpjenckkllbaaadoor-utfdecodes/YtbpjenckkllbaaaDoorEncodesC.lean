/-
  What is proved here: the walk of UtfEncodes: it answers true at every list of runes.
-/
import Derived.Test.YtbpjenckkllbaaaDoorThere
import Derived.Test.YtbpjenckkllbaaaDoorOrderC
import Derived.Test.YtbpjenckkllbaaaDoorRef1
import Derived.Deep.RegionWith
namespace Go.Proofs.YtbpjenckkllbaaaDoor
open Go.RowKit

theorem Flt.below {w w' : World} {v : Value} {B : Nat} {a : Int} {p : Addr} (h : Flt w v B a p) (hb : Below w.heap.size w w') : Flt w' v B a p := by
  obtain ⟨b, h1, h2, h3, h4⟩ := h
  exact ⟨b, h1, h2, (hb.cell (p := ⟨b, 0, none⟩) (lt_of_cell h3)).trans h3, (hb.cell (p := ⟨b, 1, none⟩) (lt_of_cell h4)).trans h4⟩

set_option maxHeartbeats 2000000 in
theorem encodes_any (w : World) (p : Nat → Addr) (hg : Gl p w) (v : Value) (rs : List Int) (hv : Runes w v rs) (hl0 : rs.length ≤ maxLen) (_wf : ∀ r ∈ rs, (Lit.int .i32 r).wf = true) :
    Calls Tryd.prog 5 #[v] w fun e w' => e = .returned (.bool true) ∧ Below w.heap.size w w' := by
  have HW := Hid.mk' (awake_any w p hg)
  have HR := Hid.mk' hv
  obtain ⟨a, cap, rfl, -⟩ := hv
  unfold maxLen at hl0
  by_cases hl : 30 < rs.length
  · clear hg
    go_enter Tryd.func5, Tryd.ntmps5
    go_wp2_with (go_at_call 9; refine HW.out.mono ?_; rintro e w1 ⟨rfl, hb1⟩)
    go_ret
    exact ⟨rfl, hb1⟩
  by_cases hr : ∀ r ∈ rs, 0 < Utf.width r
  · have HE : Hid (∀ w1, Below w.heap.size w w1 → _) := fun w1 hb => encode_ok (.slice a rs.length cap) rs w1 p (by omega) (hg.below hb) (HR.out.below hb) hr
    have HF : Hid (∀ w1, Below w.heap.size w w1 → _) := fun w1 hb => refEncode_any (.slice a rs.length cap) rs w1 (by omega) (HR.out.below hb) hr
    have HX := Hid.mk' hr
    clear hg hr
    generalize strOfNums (rs.flatMap Utf.form) = s at HE HF
    go_enter Tryd.func5, Tryd.ntmps5
    go_wp2_with fail
    refine HW.out.mono ?_
    rintro e w1 ⟨rfl, hb1⟩
    go_wp2_with fail
    refine (HE.out w1 hb1).mono ?_
    rintro e w2 ⟨rfl, hb2⟩
    have hb3 := hb1.trans (hb2.mono hb1.size)
    clear hb1 hb2
    go_wp2
    go_loopw [5] (fun i wr => ∃ k : Nat, k ≤ rs.length ∧ i = .int .i64 k ∧ Below w.heap.size w wr) (fun i _ => rs.length - (intOf i).toNat)
    case atStart => exact ⟨0, Nat.zero_le _, rfl, hb3⟩
    case round =>
      obtain ⟨k, hk, rfl, hbel⟩ := hrel
      by_cases hlt : k < rs.length
      · obtain ⟨b, off, rfl, hc0⟩ := HR.out.atPlace hlt
        have hc := (hbel.cell (p := ⟨b, off + k, none⟩) (lt_of_cell hc0)).trans hc0
        clear hc0
        have hw : 0 < Utf.width (rs.getD k 0) := HX.out _ (by rw [List.getD, List.getElem?_eq_getElem hlt]; exact List.getElem_mem hlt)
        generalize rs.getD k 0 = r at hc hw
        have hwd : decide (0 < Utf.width r) = true := by simpa using hw
        have HG : Hid (∀ wx, _) := fun wx => refForm_any r wx hw
        have hfl := Utf.form_len hw
        have hfs := strOfNums_size (Utf.form r)
        have hfe : (((strOfNums (Utf.form r)).size : Nat) : Int) = Utf.width r := by omega
        clear hfl hfs
        generalize strOfNums (Utf.form r) = y at HG hfe
        go_wp2
        go_quiet (first | (go_at_call 18; exact Calls.quiet_of_same ((right_any _ _).mono (fun _ _ h => ⟨h.1, h.2.symm⟩))) | (go_at_call 19; exact Calls.quiet_of_same ((refRight_any _ _).mono (fun _ _ h => ⟨h.1, h.2.symm⟩))))
        go_wp2_with (go_at_call 19; refine (refRight_any _ _).mono ?_; rintro e w' ⟨rfl, rfl⟩)
        go_region_with (first | (go_at_call 20; refine (width_any _ _).mono ?_; rintro e w' ⟨rfl, rfl⟩) | (go_at_call 21; refine (HG.out _).mono ?_; rintro e w4 ⟨rfl, hb4⟩))
        all_goals go_wp2
        all_goals go_roundw
        all_goals first | exact ⟨k + 1, by omega, by go_num, (below_drewN hbel _).trans (hb4.mono hbel.size)⟩ | (simp [intOf]; omega)
      · have HF2 := Hid.mk' (HF.out wr hbel)
        go_wp2_with (go_at_call 22; refine HF2.out.mono ?_; rintro e w4 ⟨rfl, hb4⟩)
        go_ret
        exact ⟨rfl, hbel.trans (hb4.mono hbel.size)⟩
  · have HE : Hid (∀ w1, Below w.heap.size w w1 → _) := fun w1 hb => encode_err (.slice a rs.length cap) rs w1 p (by omega) (hg.below hb) (HR.out.below hb) hr
    have HI : Hid (∀ w4 v B (k0 : Nat), Below w.heap.size w w4 → Flt w4 v B k0 (p 4) → _) := fun w4 v B k0 hb hf => lawIs_fault v B k0 4 w4 p (hg.below hb) (by decide) hf
    clear hg hr
    go_enter Tryd.func5, Tryd.ntmps5
    go_wp2_with fail
    refine HW.out.mono ?_
    rintro e w1 ⟨rfl, hb1⟩
    go_wp2_with fail
    refine (HE.out w1 hb1).mono ?_
    rintro e w2 ⟨bf, k0, rfl, hf, hk0, hx, hn, hb2⟩
    have hb3 := hb1.trans (hb2.mono hb1.size)
    have HX := Hid.mk' hx
    have HN := Hid.mk' hn
    have HL := Hid.mk' hf
    clear hb1 hb2 hx hn hf
    go_wp2
    go_loopw [5] (fun i wr => ∃ k : Nat, k ≤ k0 ∧ i = .int .i64 k ∧ Below w.heap.size w wr ∧ Below w2.heap.size w2 wr) (fun i _ => rs.length - (intOf i).toNat)
    case atStart => exact ⟨0, Nat.zero_le _, rfl, hb3, Below.refl _ _⟩
    case round =>
      obtain ⟨k, hk, rfl, hbel, hbel2⟩ := hrel
      have hlt : k < rs.length := by omega
      obtain ⟨b, off, rfl, hc0⟩ := HR.out.atPlace hlt
      have hc := (hbel.cell (p := ⟨b, off + k, none⟩) (lt_of_cell hc0)).trans hc0
      clear hc0
      by_cases hkk : k < k0
      · have hw : 0 < Utf.width (rs.getD k 0) := HX.out _ (by rw [List.getD, List.getElem?_eq_getElem hlt]; exact List.mem_take_iff_getElem.2 ⟨k, by omega, rfl⟩)
        generalize rs.getD k 0 = r at hc hw
        have hwd : decide (0 < Utf.width r) = true := by simpa using hw
        have HG : Hid (∀ wx, _) := fun wx => refForm_any r wx hw
        have hfl := Utf.form_len hw
        have hfs := strOfNums_size (Utf.form r)
        have hfe : (((strOfNums (Utf.form r)).size : Nat) : Int) = Utf.width r := by omega
        clear hfl hfs
        generalize strOfNums (Utf.form r) = y at HG hfe
        go_wp2
        go_quiet (first | (go_at_call 18; exact Calls.quiet_of_same ((right_any _ _).mono (fun _ _ h => ⟨h.1, h.2.symm⟩))) | (go_at_call 19; exact Calls.quiet_of_same ((refRight_any _ _).mono (fun _ _ h => ⟨h.1, h.2.symm⟩))))
        go_wp2_with (go_at_call 19; refine (refRight_any _ _).mono ?_; rintro e w' ⟨rfl, rfl⟩)
        go_region_with (first | (go_at_call 20; refine (width_any _ _).mono ?_; rintro e w' ⟨rfl, rfl⟩) | (go_at_call 21; refine (HG.out _).mono ?_; rintro e w4 ⟨rfl, hb4⟩))
        all_goals go_wp2
        all_goals go_roundw
        all_goals first | exact ⟨k + 1, by omega, by go_num, (below_drewN hbel _).trans (hb4.mono hbel.size), (below_drewN hbel2 _).trans (hb4.mono hbel2.size)⟩ | (simp [intOf]; omega)
      · have hkq : k = k0 := by omega
        subst hkq
        have hw0 : Utf.width (rs.getD k 0) = 0 := by have := HN.out; have := Utf.width_le (rs.getD k 0); omega
        generalize rs.getD k 0 = r at hc hw0
        have hwd : decide (0 < Utf.width r) = false := by rw [hw0]; rfl
        have hwz : (Utf.width r == 0) = true := by rw [hw0]; rfl
        have HI2 : Hid (∀ n, _) := fun n => HI.out (wr.drewN n) _ _ k (below_drewN hbel n) (HL.out.below (below_drewN hbel2 n))
        clear hw0
        go_wp2
        go_quiet (first | (go_at_call 18; exact Calls.quiet_of_same ((right_any _ _).mono (fun _ _ h => ⟨h.1, h.2.symm⟩))) | (go_at_call 19; exact Calls.quiet_of_same ((refRight_any _ _).mono (fun _ _ h => ⟨h.1, h.2.symm⟩))))
        go_wp2_with (first | (go_at_call 19; refine (refRight_any _ _).mono ?_; rintro e w' ⟨rfl, rfl⟩) | (go_at_call 20; refine (width_any _ _).mono ?_; rintro e w' ⟨rfl, rfl⟩) | (go_at_call 12; refine (HI2.out _).mono ?_; rintro e w4 ⟨rfl, hb4⟩))
        go_ret
        exact ⟨rfl, (below_drewN hbel _).trans (hb4.mono hbel.size)⟩
end Go.Proofs.YtbpjenckkllbaaaDoor

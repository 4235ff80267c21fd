/-
  What is proved here: the walk of UtfNext: it answers true at every text and every place.
-/
import Derived.Test.YtbpjenckkllbaaaDoorRef3
import Derived.Test.YtbpjenckkllbaaaDoorAwake
import Derived.Test.YtbpjenckkllbaaaDoorEncodesC
namespace Go.Proofs.YtbpjenckkllbaaaDoor
open Go.RowKit

theorem next_out (s : ByteArray) (at_ : Int) (w : World) (p : Nat → Addr) (hs : s.size ≤ maxLen) (hg : Gl p w) (h : at_ < 0 ∨ (s.size : Int) ≤ at_) :
    Calls Tryd.prog 15 #[.string s, .int .i64 at_] w fun e w' => ∃ b, e = .returned (.tuple #[.int .i32 0, .int .i64 0, .iface 45 (.pointer (some ⟨b, 0, none⟩))]) ∧ Flt w' (.iface 45 (.pointer (some ⟨b, 0, none⟩))) w.heap.size at_ (p 4) ∧ Below w.heap.size w w' := by
  refine (next_range s at_ w p hs hg h).mono ?_
  rintro e w' ⟨hb, h1 | h1⟩
  · exact absurd h1.1 (by decide)
  · obtain ⟨_, v, rfl, hf⟩ := h1
    obtain ⟨b, h1, rfl, h3⟩ := hf
    exact ⟨b, rfl, ⟨b, h1, rfl, h3⟩, hb⟩

set_option maxHeartbeats 2000000 in
theorem lawNext_any (w : World) (p : Nat → Addr) (hg : Gl p w) (s : ByteArray) (hs : s.size ≤ maxLen) (at_ : Int) (_wn : (Lit.int .i64 at_).wf = true) :
    Calls Tryd.prog 4 #[.string s, .int .i64 at_] w fun e w' => e = .returned (.bool true) ∧ Below w.heap.size w w' := by
  have HW := Hid.mk' (awake_any w p hg)
  have HM := Hid.mk' hs
  unfold maxLen at hs
  by_cases hl : 60 < s.size
  · clear hg
    go_enter Tryd.func4, Tryd.ntmps4
    go_wp2_with (go_at_call 9; refine HW.out.mono ?_; rintro e w1 ⟨rfl, hb1⟩)
    go_ret
    exact ⟨rfl, hb1⟩
  by_cases hat : at_ < 0 ∨ (s.size : Int) ≤ at_
  · have HE : Hid (∀ w1, Below w.heap.size w w1 → _) := fun w1 hb => next_out s at_ w1 p HM.out (hg.below hb) hat
    have HI : Hid (∀ w4 v B, Below w.heap.size w w4 → Flt w4 v B at_ (p 4) → _) := fun w4 v B hb hf => lawIs_fault v B at_ 4 w4 p (hg.below hb) (by decide) hf
    clear hg
    by_cases h0 : at_ < 0
    all_goals
      go_enter Tryd.func4, Tryd.ntmps4
      go_wp2_with fail
      refine HW.out.mono ?_
      rintro e w1 ⟨rfl, hb1⟩
      go_wp2_with fail
      refine (HE.out w1 hb1).mono ?_
      rintro e w2 ⟨b, rfl, hf, hb2⟩
      have hb3 := hb1.trans (hb2.mono hb1.size)
      have HI2 := Hid.mk' (HI.out w2 _ _ hb3 hf)
      clear hf
      go_wp2_with (go_at_call 12; refine HI2.out.mono ?_; rintro e w4 ⟨rfl, hb4⟩)
      go_ret
      exact ⟨rfl, hb3.trans (hb4.mono hb3.size)⟩
  · obtain ⟨k, rfl⟩ := Int.eq_ofNat_of_zero_le (show 0 ≤ at_ by omega)
    have hk : k < s.size := by omega
    have HR : Hid (∀ w1, _) := fun w1 => refNext_any s k w1 (by omega) hk
    clear hat
    rcases Utf.code_cases (s.data.toList.drop k) with hc | hc
    · obtain ⟨r, n, hf⟩ : ∃ r n, Utf.first (s.data.toList.drop k) = (r, n, 0) := ⟨_, _, Prod.ext rfl (Prod.ext rfl hc)⟩
      have HE : Hid (∀ w1, Below w.heap.size w w1 → _) := fun w1 hb => next_ok s k w1 p (by omega) (hg.below hb) hk r n hf
      rw [hf] at HR
      clear hg hf hc
      go_enter Tryd.func4, Tryd.ntmps4
      go_wp2_with fail
      refine HW.out.mono ?_
      rintro e w1 ⟨rfl, hb1⟩
      go_wp2_with fail
      refine (HE.out w1 hb1).mono ?_
      rintro e w2 ⟨rfl, hb2⟩
      have hb3 := hb1.trans (hb2.mono hb1.size)
      have HR2 := Hid.mk' (HR.out w2)
      go_wp2_with (first | (go_at_call 16; refine HR2.out.mono ?_; rintro e w3 ⟨rfl, hb4⟩) | (go_at_call 12; refine (lawIs_none _ _).mono ?_; rintro e w4 ⟨rfl, rfl⟩))
      go_ret
      exact ⟨rfl, hb3.trans (hb4.mono hb3.size)⟩
    · obtain ⟨c, hc2, hf⟩ : ∃ c, (c = 1 ∨ c = 2 ∨ c = 4) ∧ Utf.first (s.data.toList.drop k) = (0, 0, c) := by
        rcases hc with h | h
        · exact ⟨1, .inl rfl, h⟩
        · exact ⟨2, .inr (.inl rfl), h⟩
      have HE : Hid (∀ w1, Below w.heap.size w w1 → _) := fun w1 hb => next_err s k w1 p (by omega) (hg.below hb) hk (by rw [hf]; show c ≠ 0; omega)
      have HI : Hid (∀ w4 v B, Below w.heap.size w w4 → Flt w4 v B k (p c) → _) := fun w4 v B hb hf => lawIs_fault v B k c w4 p (hg.below hb) hc2 hf
      rw [hf] at HR HE
      clear hg hf hc hc2
      go_enter Tryd.func4, Tryd.ntmps4
      go_wp2_with fail
      refine HW.out.mono ?_
      rintro e w1 ⟨rfl, hb1⟩
      go_wp2_with fail
      refine (HE.out w1 hb1).mono ?_
      rintro e w2 ⟨b, rfl, hf, hb2⟩
      have hb3 := hb1.trans (hb2.mono hb1.size)
      have HR2 := Hid.mk' (HR.out w2)
      have HI2 : Hid (∀ w3, Below w2.heap.size w2 w3 → _) := fun w3 hb => HI.out w3 _ _ (hb3.trans (hb.mono hb3.size)) (hf.below hb)
      have HFL := Hid.mk' hf
      clear hf
      go_wp2_with (first | (go_at_call 16; refine HR2.out.mono ?_; rintro e w3 ⟨rfl, hb4⟩) | (go_at_call 12; refine (HI2.out w3 hb4).mono ?_; rintro e w5 ⟨rfl, hb5⟩))
      go_ret
      have hb6 := hb3.trans (hb4.mono hb3.size)
      exact ⟨rfl, hb6.trans (hb5.mono hb6.size)⟩
end Go.Proofs.YtbpjenckkllbaaaDoor

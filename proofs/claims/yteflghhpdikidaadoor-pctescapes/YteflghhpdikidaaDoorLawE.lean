/-
  What is proved here: that PctEscapes answers true at every text, every bytes to keep and every byte.
-/
import Derived.Test.YteflghhpdikidaaDoorRefE
import Derived.OpenShut
namespace Go.Proofs.YteflghhpdikidaaDoor
open Go.RowKit

set_option maxRecDepth 20000 in
set_option maxHeartbeats 1000000 in
theorem escapes_any (w : World) (p : Nat → Addr) (hg : Gl p w) (s : ByteArray) (hs : s.size ≤ maxLen) (keep : ByteArray) (hk : keep.size ≤ maxLen) (bi : Int) (wb : (Lit.int .u8 bi).wf = true) :
    Calls Tryd.prog 4 #[.string s, .string keep, .int .u8 bi] w fun e w' => e = .returned (.bool true) ∧ Below w.heap.size w w' := by
  have HW := Hid.mk' (awake2_any w p hg)
  unfold maxLen at hs hk
  obtain ⟨b, rfl, hb⟩ : ∃ b : Nat, bi = b ∧ b < 256 := by
    have := bounds_u8 wb
    exact ⟨bi.toNat, by omega, by omega⟩
  clear wb
  by_cases hl : 60 < s.size
  · clear hg
    go_enter Tryd.func4, Tryd.ntmps4
    go_wp2_with (go_at_call 9; refine HW.out.mono ?_; rintro e w1 ⟨rfl, hb1⟩)
    go_ret
    exact ⟨rfl, hb1⟩
  · have hd : decide (60 < (s.size : Int)) = false := by simp; omega
    by_cases hl2 : 20 < keep.size
    · clear hg
      go_enter Tryd.func4, Tryd.ntmps4
      go_wp2_with (go_at_call 9; refine HW.out.mono ?_; rintro e w1 ⟨rfl, hb1⟩)
      go_ret
      exact ⟨rfl, hb1⟩
    · have hd2 : decide (20 < (keep.size : Int)) = false := by simp; omega
      have HP1 : Hid (∀ w1, _) := fun w1 => plain_any b w1 hb
      have HP2 : Hid (∀ w1, _) := fun w1 => refPlain_any b w1 hb
      have HE1 : Hid (∀ w1, _) := fun w1 => escape_any s keep w1 (by omega) (by omega)
      have HE2 : Hid (∀ w1, _) := fun w1 => refEscape_any s keep w1 (by omega) (by omega)
      generalize Pct.plain b = pb at HP1 HP2
      generalize (ByteArray.mk (Pct.esf keep.data.toList s.data.toList).toArray) = X at HE1 HE2
      rcases un_cases s.data.toList with ⟨m, hu⟩ | ⟨k, c, hu, hc⟩
      · have hml : m.length ≤ s.size := by have := un_len s.data.toList 0; rw [hu] at this; exact this
        have HC : Hid (∀ w1, _) := fun w1 => canon_ok s keep w1 (by omega) (by omega) m hu
        have HR : Hid (∀ w1, _) := fun w1 => refUn_c s w1 (by omega) m 0 0 hu
        have HE3 : Hid (∀ w1, Calls Tryd.prog 15 #[.string (Pct.str m), .string keep] w1 fun e w' => e = .returned (.string ⟨(Pct.esf keep.data.toList (m.map (·.2))).toArray⟩) ∧ Below w1.heap.size w1 w') := fun w1 => refEscape_any (Pct.str m) keep w1 (by rw [str_size]; omega) (by omega)
        generalize (ByteArray.mk (Pct.esf keep.data.toList (m.map (·.2))).toArray) = Y at HC HE3
        generalize Pct.str m = tt at HR HE3
        clear hg hu hml
        go_enter Tryd.func4, Tryd.ntmps4
        go_wp2_with fail
        refine HW.out.mono ?_
        rintro e w1 ⟨rfl, hb1⟩
        go_wp2_with fail
        refine (HC.out w1).mono ?_
        rintro e w2 ⟨rfl, hb2⟩
        go_wp2_with fail
        refine (HR.out w2).mono ?_
        rintro e w3 ⟨v, rfl, ⟨va, vc, rfl, -⟩, hb3⟩
        have h1 := hb1.trans (hb2.mono hb1.size)
        have h2 := h1.trans (hb3.mono h1.size)
        have HB := Hid.mk' (fun o => h2.alloc h2.size o)
        clear hb1 hb2 hb3 h1
        go_wp2_with fail
        refine (lawIs_none _ _).mono ?_
        rintro e w4 ⟨rfl, rfl⟩
        go_wp2_with fail
        refine (HE3.out _).mono ?_
        rintro e w5 ⟨rfl, hb5⟩
        have h3 := (HB.out _).trans (hb5.mono (HB.out _).size)
        clear hb5
        go_wp2_with fail
        refine (HE1.out _).mono ?_
        rintro e w6 ⟨rfl, hb6⟩
        have h4 := h3.trans (hb6.mono h3.size)
        go_wp2_with fail
        refine (HE2.out _).mono ?_
        rintro e w7 ⟨rfl, hb7⟩
        have h5 := h4.trans (hb7.mono h4.size)
        clear h2 h3 h4 hb6 hb7
        go_wp2_with fail
        refine (HP1.out _).mono ?_
        rintro e w8 ⟨rfl, hb8⟩
        have h6 := h5.trans (hb8.mono h5.size)
        clear h5 hb8
        go_wp2_with (go_at_call 18; refine (HP2.out _).mono ?_; rintro e w9 ⟨rfl, rfl⟩)
        go_ret
        exact ⟨rfl, h6⟩
      · have HC : Hid (∀ w1, Below w.heap.size w w1 → _) := fun w1 hb => canon_err s keep w1 p (hg.below hb) (by omega) k c hu (by omega)
        have HR : Hid (∀ w1, _) := fun w1 => refUn_e s w1 (by omega) k c hu
        have HI : Hid (∀ w1 v B, Below w.heap.size w w1 → Flt w1 v B k (p c) → _) := fun w1 v B hb hf => lawIs_fault v B k c w1 p (hg.below hb) (by omega) hf
        clear hg hu
        go_enter Tryd.func4, Tryd.ntmps4
        go_wp2_with fail
        refine HW.out.mono ?_
        rintro e w1 ⟨rfl, hb1⟩
        go_wp2_with fail
        refine (HC.out w1 hb1).mono ?_
        rintro e w2 ⟨eb, rfl, hf, hb2⟩
        go_wp2_with fail
        refine (HR.out w2).mono ?_
        rintro e w3 ⟨va, vc, rfl, hb3⟩
        have h1 := hb1.trans (hb2.mono hb1.size)
        have h2 := h1.trans (hb3.mono h1.size)
        have HB := Hid.mk' (fun o => h2.alloc h2.size o)
        have HF := Hid.mk' (fun o => (hf.below hb3).below ((Below.refl _ _).alloc (Nat.le_refl _) o))
        clear hb1 hb2 hb3 h1 hf
        go_wp2_with fail
        refine (HI.out _ _ _ (HB.out _) (HF.out _)).mono ?_
        rintro e w5 ⟨rfl, hb5⟩
        have h3 := (HB.out _).trans (hb5.mono (HB.out _).size)
        clear hb5
        go_wp2_with fail
        refine (HE1.out _).mono ?_
        rintro e w6 ⟨rfl, hb6⟩
        have h4 := h3.trans (hb6.mono h3.size)
        go_wp2_with fail
        refine (HE2.out _).mono ?_
        rintro e w7 ⟨rfl, hb7⟩
        have h5 := h4.trans (hb7.mono h4.size)
        clear h2 h3 h4 hb6 hb7
        go_wp2_with fail
        refine (HP1.out _).mono ?_
        rintro e w8 ⟨rfl, hb8⟩
        have h6 := h5.trans (hb8.mono h5.size)
        clear h5 hb8
        go_wp2_with (go_at_call 18; refine (HP2.out _).mono ?_; rintro e w9 ⟨rfl, rfl⟩)
        go_ret
        exact ⟨rfl, h6⟩
end Go.Proofs.YteflghhpdikidaaDoor

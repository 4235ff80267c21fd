/-
  What is proved here: what pct.Canon answers; that PctBack answers true at every text and every bytes to keep.
-/
import Derived.Test.YteflghhpdikidaaDoorEsc2
import Derived.Test.YteflghhpdikidaaDoorLawU
namespace Go.Proofs.YteflghhpdikidaaDoor
open Go.RowKit

set_option maxHeartbeats 1000000 in
theorem canon_ok (s keep : ByteArray) (w : World) (hs : s.size ≤ 1073741824) (hk : keep.size ≤ 4294967296) (l : List (Nat × UInt8)) (h : Pct.un s.data.toList 0 = (l, 0, 0)) :
    Calls Tryd.prog 14 #[.string s, .string keep] w fun e w' => e = .returned (.tuple #[.string ⟨(Pct.esf keep.data.toList (l.map (·.2))).toArray⟩, .nilIface]) ∧ Below w.heap.size w w' := by
  have hl : l.length ≤ s.size := by have := un_len s.data.toList 0; rw [h] at this; exact this
  have HU := Hid.mk' (unescape_ok s w (by omega) l h)
  have HE : Hid (∀ w1, Calls Tryd.prog 16 #[.string (Pct.str l), .string keep] w1 fun e w' => e = .returned (.string ⟨(Pct.esf keep.data.toList (l.map (·.2))).toArray⟩) ∧ Below w1.heap.size w1 w') := fun w1 => escape_any (Pct.str l) keep w1 (by rw [str_size]; omega) hk
  clear h hl
  go_enter Tryd.func14, Tryd.ntmps14
  go_wp2_with fail
  refine HU.out.mono ?_
  rintro e w1 ⟨rfl, hb1⟩
  go_wp2_with fail
  refine (HE.out w1).mono ?_
  rintro e w2 ⟨rfl, hb2⟩
  go_wp2
  go_ret2
  exact ⟨rfl, hb1.trans (hb2.mono hb1.size)⟩

set_option maxHeartbeats 1000000 in
theorem canon_err (s keep : ByteArray) (w : World) (p : Nat → Addr) (hg : Gl p w) (hs : s.size ≤ 1073741824) (ka ce : Nat) (h : Pct.un s.data.toList 0 = ([], ka, ce)) (hce : ce ≠ 0) :
    Calls Tryd.prog 14 #[.string s, .string keep] w fun e w' => ∃ b, e = .returned (.tuple #[.string ⟨#[]⟩, .iface 57 (.pointer (some ⟨b, 0, none⟩))]) ∧ Flt w' (.iface 57 (.pointer (some ⟨b, 0, none⟩))) w.heap.size ka (p ce) ∧ Below w.heap.size w w' := by
  have HU := Hid.mk' (unescape_err s w p hg (by omega) ka ce h hce)
  clear h hg
  go_enter Tryd.func14, Tryd.ntmps14
  go_wp2_with fail
  refine HU.out.mono ?_
  rintro e w1 ⟨b, rfl, hf, hb1⟩
  have HF := Hid.mk' hf
  clear hf
  go_wp2
  go_ret2
  exact ⟨b, rfl, HF.out, hb1⟩

theorem str_back (s : ByteArray) (l : List (Nat × UInt8)) (h : l.map (·.2) = s.data.toList) : Pct.str l = s := by
  obtain ⟨⟨t⟩⟩ := s
  have e : l.map (·.2) = t := h
  unfold Pct.str
  rw [e]

set_option maxRecDepth 20000 in
set_option maxHeartbeats 1000000 in
theorem pback_any (w : World) (p : Nat → Addr) (hg : Gl p w) (s : ByteArray) (hs : s.size ≤ maxLen) (keep : ByteArray) (hk : keep.size ≤ maxLen) :
    Calls Tryd.prog 7 #[.string s, .string keep] w fun e w' => e = .returned (.bool true) ∧ Below w.heap.size w w' := by
  have HW := Hid.mk' (awake2_any w p hg)
  unfold maxLen at hs hk
  clear hg
  by_cases hl : 60 < s.size
  · go_enter Tryd.func7, Tryd.ntmps7
    go_wp2_with (go_at_call 9; refine HW.out.mono ?_; rintro e w1 ⟨rfl, hb1⟩)
    go_ret
    exact ⟨rfl, hb1⟩
  · have hd : decide (60 < (s.size : Int)) = false := by simp; omega
    by_cases hl2 : 20 < keep.size
    · go_enter Tryd.func7, Tryd.ntmps7
      go_wp2_with (go_at_call 9; refine HW.out.mono ?_; rintro e w1 ⟨rfl, hb1⟩)
      go_ret
      exact ⟨rfl, hb1⟩
    · have hd2 : decide (20 < (keep.size : Int)) = false := by simp; omega
      have hsl : s.data.toList.length = s.size := rfl
      have hel := Pct.esf_len keep.data.toList s.data.toList
      have hun := Pct.un_esf keep.data.toList s.data.toList 0
      have hsp := Pct.spots_map keep.data.toList s.data.toList 0
      have hsl2 : (Pct.spots keep.data.toList s.data.toList 0).length = s.size := by have := congrArg List.length hsp; rw [List.length_map, hsl] at this; exact this
      obtain ⟨t, ht⟩ : ∃ t : ByteArray, t = ⟨(Pct.esf keep.data.toList s.data.toList).toArray⟩ := ⟨_, rfl⟩
      have htd : t.data.toList = Pct.esf keep.data.toList s.data.toList := by rw [ht]
      have hts : t.size ≤ 180 := by
        have : t.data.toList.length = t.size := rfl
        rw [htd] at this; omega
      rw [← htd] at hun
      have HX : Hid (∀ w1, Calls Tryd.prog 16 #[.string s, .string keep] w1 fun e w' => e = .returned (.string t) ∧ Below w1.heap.size w1 w') := fun w1 => by
        rw [ht]; exact escape_any s keep w1 (by omega) (by omega)
      have HU : Hid (∀ w1, Calls Tryd.prog 10 #[.string t] w1 fun e w' => e = .returned (.tuple #[.string s, .nilIface]) ∧ Below w1.heap.size w1 w') := fun w1 => by
        have := unescape_ok t w1 (by omega) _ hun
        rw [str_back s _ hsp] at this
        exact this
      have HC : Hid (∀ w1, Calls Tryd.prog 14 #[.string t, .string keep] w1 fun e w' => e = .returned (.tuple #[.string t, .nilIface]) ∧ Below w1.heap.size w1 w') := fun w1 => by
        have := canon_ok t keep w1 (by omega) (by omega) _ hun
        rw [hsp, ← ht] at this
        exact this
      have HP : Hid (∀ w1, Calls Tryd.prog 12 #[.string t] w1 fun e w' => ∃ a c, e = .returned (.slice a s.size c) ∧ Below w1.heap.size w1 w') := fun w1 => by
        refine (places_ok t w1 (by omega) _ hun).mono ?_
        rintro e w' ⟨v, rfl, ⟨a, c, rfl, -⟩, hb⟩
        refine ⟨a, c, ?_, hb⟩
        rw [List.length_map, hsl2]
      clear hsl hel hun hsp hsl2 ht htd
      go_enter Tryd.func7, Tryd.ntmps7
      go_wp2_with fail
      refine HW.out.mono ?_
      rintro e w1 ⟨rfl, hb1⟩
      go_wp2_with fail
      refine (HX.out w1).mono ?_
      rintro e w2 ⟨rfl, hb2⟩
      go_wp2_with fail
      refine (HU.out w2).mono ?_
      rintro e w3 ⟨rfl, hb3⟩
      go_wp2_with fail
      refine (HC.out w3).mono ?_
      rintro e w4 ⟨rfl, hb4⟩
      have h1 := hb1.trans (hb2.mono hb1.size)
      have h2 := h1.trans (hb3.mono h1.size)
      have h3 := h2.trans (hb4.mono h2.size)
      clear hb1 hb2 hb3 hb4 h1 h2
      go_wp2_with (go_at_call 12; refine (HP.out w4).mono ?_; rintro e w5 ⟨a, c, rfl, hb5⟩)
      go_ret
      exact ⟨rfl, h3.trans (hb5.mono h3.size)⟩
end Go.Proofs.YteflghhpdikidaaDoor

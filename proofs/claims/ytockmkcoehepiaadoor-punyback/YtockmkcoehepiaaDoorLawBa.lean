/-
  What is proved here: what the law PunyBack answers.
-/
import Derived.Test.YtockmkcoehepiaaDoorZE
namespace Go.Proofs.YtockmkcoehepiaaDoor
open Go.RowKit

theorem size_strOf (l : List Int) : (strOfNums l).size = l.length := strOfNums_size l
theorem high_none {l : List Int} (h : ∀ b ∈ l, 0 ≤ b ∧ b ≤ 127) : highAt (strOfNums l) = -1 := by
  rcases high_spec (strOfNums l) (strOfNums l).size 0 (by omega) with ⟨e, -⟩ | ⟨i, -, -, hi, hg, -⟩
  · exact e
  · have hb := bytes_at (strOfNums l) i hi
    rw [bytes_strOf (fun b hb => by have := h b hb; omega)] at hb
    have hil : i < l.length := by rw [size_strOf] at hi; exact hi
    have := h (l.getD i 0) (by rw [List.getD_eq_getElem?_getD, List.getElem?_eq_getElem hil]; exact List.getElem_mem _)
    omega
/-- what was encoded is decoded as it was -/
theorem decode_enc (l : List Int) (hl : l.length ≤ 120) (hr : wrongAt l < 0) (he : (encM l).length ≤ 120) (w : World) (p : Nat → Addr) (hg : Gl p w) :
    Calls Tryd.prog 27 #[.string (strOfNums (encM l))] w fun e w' => ∃ v, e = .returned (.tuple #[v, .nilIface]) ∧ w'.ownsRow w.heap.size 21 1 v l.length (cellsOf l) ∧ Below w.heap.size w w' := by
  obtain ⟨f, hf, hd, hb⟩ := back_is hl (wrong_none.1 hr)
  have hbs : bytesM (strOfNums (encM l)) = encM l := bytes_strOf (fun b h => by have := hb b h; omega)
  have hfr : fromOf (strOfNums (encM l)) = f := by
    have := from_is (strOfNums (encM l))
    rw [hbs] at this
    exact from_unique this hf
  have := decode_run (strOfNums (encM l)) w p hg (by rw [size_strOf]; exact he) (high_none hb)
  rw [hbs, hfr, hd] at this
  exact this
set_option maxRecDepth 20000 in
set_option maxHeartbeats 1000000 in
theorem back_any (w : World) (p : Nat → Addr) (hg : Gl p w ∧ Et w) (a : Option Addr) (cap : Nat) (l : List Int) (h : RunesC w a cap l) (_hl : l.length ≤ maxLen) :
    Calls Tryd.prog 10 #[.slice a l.length cap] w fun e w' => e = .returned (.bool true) ∧ Below w.heap.size w w' := by
  unfold maxLen at _hl
  have HA := Hid.mk' (awake6_any w p hg.1 hg.2)
  by_cases h60 : l.length ≤ 60
  · have hd60 : decide (60 < l.length) = false := decide_eq_false (by omega)
    by_cases hw : 0 ≤ wrongAt l
    · have HE : Hid (∀ W, Below w.heap.size w W → _) := fun W hW => encode_wrong a cap l W p (hg.1.below hW) (h.below hW) (by omega) hw
      clear hg h
      go_enter Tryd.func10, Tryd.ntmps10
      go_wp2_with fail
      refine HA.out.mono ?_
      rintro e w1 ⟨rfl, hb1⟩
      go_wp2_with fail
      refine (HE.out w1 hb1).mono ?_
      rintro e w2 ⟨fv, rfl, ⟨fb, q1, rfl, q3, q4⟩, hb2⟩
      clear q3 q4
      go_wp2
      go_ret
      exact ⟨rfl, hb1.trans (hb2.mono hb1.size)⟩
    · have HE : Hid (∀ W, Below w.heap.size w W → _) := fun W hW => encode_run a cap l W p (hg.1.below hW) (h.below hW) (by omega) (by omega)
      have HD : Hid ((encM l).length ≤ 120 → ∀ W, Below w.heap.size w W → _) := fun he W hW => decode_enc l (by omega) (by omega) he W p (hg.1.below hW)
      have HS : Hid (∀ W v, Runes W v l → Below w.heap.size w W → _) := fun W v hv hW => same_any v (.slice a l.length cap) l W (by omega) hv ((h.below hW).runes)
      clear hg h
      go_enter Tryd.func10, Tryd.ntmps10
      go_wp2_with fail
      refine HA.out.mono ?_
      rintro e w1 ⟨rfl, hb1⟩
      go_wp2_with fail
      refine (HE.out w1 hb1).mono ?_
      rintro e w2 ⟨hR, hb2⟩
      have hb12 := hb1.trans (hb2.mono hb1.size)
      rcases hR with ⟨he, rfl⟩ | ⟨he, fv, rfl, ⟨fb, q1, rfl, q3, q4⟩⟩
      · have HD2 := Hid.mk' (HD.out he w2 hb12)
        clear HD
        generalize strOfNums (encM l) = s at *
        go_wp2_with fail
        refine HD2.out.mono ?_
        rintro e w3 ⟨v, rfl, hown, hb3⟩
        have hb13 := hb12.trans (hb3.mono hb12.size)
        have HS2 := Hid.mk' (HS.out w3 v (Runes.own hown) hb13)
        obtain ⟨va, vcp, rfl⟩ := own_slice hown
        clear hown
        go_wp2_with (go_at_call 19; refine HS2.out.mono ?_; rintro e w4 ⟨rfl, hb4⟩)
        go_ret
        exact ⟨rfl, hb13.trans (hb4.mono hb13.size)⟩
      · clear q3 q4
        go_wp2
        go_ret
        exact ⟨rfl, hb12⟩
  · have hd60 : decide (60 < l.length) = true := decide_eq_true (by omega)
    clear hg h
    go_enter Tryd.func10, Tryd.ntmps10
    go_wp2_with fail
    refine HA.out.mono ?_
    rintro e w1 ⟨rfl, hb1⟩
    go_wp2
    go_ret
    exact ⟨rfl, hb1⟩
end Go.Proofs.YtockmkcoehepiaaDoor

/-
  What is proved here: what the law PunyEncodes answers.
-/
import Derived.Test.YtockmkcoehepiaaDoorU3
namespace Go.Proofs.YtockmkcoehepiaaDoor
open Go.RowKit

set_option maxRecDepth 20000 in
set_option maxHeartbeats 1000000 in
theorem refEncode_many (a : Option Addr) (cap : Nat) (l : List Int) (w : World) (h : RunesC w a cap l) (hl : l.length ≤ 200) (hm : 120 < l.length) (hw : wrongAt l < 0) :
    Calls Tryd.prog 26 #[.slice a l.length cap] w fun e w' => e = .returned (.tuple #[.string ⟨#[]⟩, .int .i64 0, .int .i64 3]) ∧ Below w.heap.size w w' := by
  have hr := wrong_none.1 hw
  have HRR : Hid (∀ k, k < l.length → rgtB (l.getD k 0) = true) := fun k hk => hr _ (by rw [List.getD_eq_getElem?_getD, List.getElem?_eq_getElem hk]; exact List.getElem_mem _)
  have HC := Hid.mk' h.2
  have HRI : Hid (∀ r W, _) := fun r W => refRight_any r W
  clear h hr hw
  go_enter Tryd.func26, Tryd.ntmps26
  go_wp2
  go_loop [5] (fun x => ∃ k : Nat, k ≤ l.length ∧ x = .int .i64 k) (fun x => l.length - (intOf x).toNat)
  case atStart => exact ⟨0, Nat.zero_le _, rfl⟩
  case round =>
    obtain ⟨k, hk, rfl⟩ := hrel
    by_cases hlt : k < l.length
    · obtain ⟨b, off, rfl, ck⟩ := HC.out k hlt
      have HK := Hid.mk' (HRI.out (l.getD k 0) w)
      rw [HRR.out k hlt] at HK
      generalize l.getD k 0 = x at *
      have hklz : (k : Int) < (l.length : Int) := by omega
      go_wp2_with fail
      refine HK.out.mono ?_
      rintro e w1 ⟨rfl, rfl⟩
      go_wp2
      go_round
      case rel => exact ⟨k + 1, by omega, by go_num⟩
      case measure => simp [intOf]; omega
    · obtain rfl : k = l.length := by omega
      have hld : decide (120 < l.length) = true := decide_eq_true (by omega)
      have hld2 : (120 : Int) < (l.length : Int) := by omega
      go_wp2
      go_ret3
      exact ⟨rfl, Below.refl _ _⟩
theorem encode_fault (w : World) (p : Nat → Addr) (hg : Gl p w) (a : Option Addr) (cap : Nat) (l : List Int) (h : RunesC w a cap l) (hl : l.length ≤ 130) (hne : ¬ (wrongAt l < 0 ∧ l.length ≤ 120 ∧ (encM l).length ≤ 120)) :
    ∃ (at_ : Int) (c : Nat), Code c ∧ (∀ W, Below w.heap.size w W → Calls Tryd.prog 25 #[.slice a l.length cap] W fun e w' => (∃ v, e = .returned (.tuple #[.string ⟨#[]⟩, v]) ∧ Flt w' v W.heap.size at_ (p c)) ∧ Below W.heap.size W w') ∧ (∀ W, Below w.heap.size w W → Calls Tryd.prog 26 #[.slice a l.length cap] W fun e w' => e = .returned (.tuple #[.string ⟨#[]⟩, .int .i64 at_, .int .i64 (c : Int)]) ∧ Below W.heap.size W w') := by
  by_cases h1 : 0 ≤ wrongAt l
  · refine ⟨wrongAt l, 4, by unfold Code; omega, fun W hW => ?_, fun W hW => refEncode_wrong a cap l W (h.below hW) (by omega) h1⟩
    refine (encode_wrong a cap l W p (hg.below hW) (h.below hW) (by omega) h1).mono ?_
    rintro e w' ⟨v, h1, h2, h3⟩
    exact ⟨⟨v, h1, h2⟩, h3⟩
  · by_cases h2 : 120 < l.length
    · refine ⟨0, 3, by unfold Code; omega, fun W hW => ?_, fun W hW => refEncode_many a cap l W (h.below hW) (by omega) h2 (by omega)⟩
      refine (encode_many a cap l W p (hg.below hW) (h.below hW) (by omega) (by omega) h2).mono ?_
      rintro e w' ⟨v, h1, h2, h3⟩
      exact ⟨⟨v, h1, h2⟩, h3⟩
    · have h3 : ¬ (encM l).length ≤ 120 := fun h3 => hne ⟨by omega, by omega, h3⟩
      refine ⟨0, 3, by unfold Code; omega, fun W hW => ?_, fun W hW => ?_⟩
      · refine (encode_run a cap l W p (hg.below hW) (h.below hW) (by omega) (by omega)).mono ?_
        rintro e w' ⟨hR, hb⟩
        rcases hR with ⟨q, -⟩ | ⟨-, q⟩
        · exact absurd q h3
        · exact ⟨q, hb⟩
      · refine (refEncode_run a cap l W (h.below hW) (by omega) (by omega)).mono ?_
        rintro e w' ⟨hR, hb⟩
        rcases hR with ⟨q, -⟩ | ⟨-, q⟩
        · exact absurd q h3
        · exact ⟨q, hb⟩
set_option maxRecDepth 20000 in
set_option maxHeartbeats 1000000 in
theorem encodes_any (w : World) (p : Nat → Addr) (hg : Gl p w ∧ Et w) (a : Option Addr) (cap : Nat) (l : List Int) (h : RunesC w a cap l) (_hl : l.length ≤ maxLen) :
    Calls Tryd.prog 7 #[.slice a l.length cap] w fun e w' => e = .returned (.bool true) ∧ Below w.heap.size w w' := by
  unfold maxLen at _hl
  have HA := Hid.mk' (awake6_any w p hg.1 hg.2)
  by_cases h130 : l.length ≤ 130
  · have hd : decide (130 < l.length) = false := decide_eq_false (by omega)
    by_cases hok : wrongAt l < 0 ∧ l.length ≤ 120 ∧ (encM l).length ≤ 120
    · obtain ⟨k1, k2, k3⟩ := hok
      have HE : Hid (∀ W, Below w.heap.size w W → Calls Tryd.prog 25 #[.slice a l.length cap] W fun e w' => e = .returned (.tuple #[.string (strOfNums (encM l)), .nilIface]) ∧ Below W.heap.size W w') := fun W hW => (encode_run a cap l W p (hg.1.below hW) (h.below hW) k2 k1).mono (fun e w' hq => by
        rcases hq.1 with ⟨-, q⟩ | ⟨q, -⟩
        · exact ⟨q, hq.2⟩
        · omega)
      have HF : Hid (∀ W, Below w.heap.size w W → Calls Tryd.prog 26 #[.slice a l.length cap] W fun e w' => e = .returned (.tuple #[.string (strOfNums (encM l)), .int .i64 0, .int .i64 0]) ∧ Below W.heap.size W w') := fun W hW => (refEncode_run a cap l W (h.below hW) k2 k1).mono (fun e w' hq => by
        rcases hq.1 with ⟨-, q⟩ | ⟨q, -⟩
        · exact ⟨q, hq.2⟩
        · omega)
      have HI : Hid (∀ W, _) := fun W => lawIs_none 0 W
      generalize strOfNums (encM l) = s at *
      clear hg h k3
      go_enter Tryd.func7, Tryd.ntmps7
      go_wp2_with fail
      refine HA.out.mono ?_
      rintro e w1 ⟨rfl, hb1⟩
      go_wp2_with fail
      refine (HE.out w1 hb1).mono ?_
      rintro e w2 ⟨rfl, hb2⟩
      have hb12 := hb1.trans (hb2.mono hb1.size)
      go_wp2_with fail
      refine (HF.out w2 hb12).mono ?_
      rintro e w3 ⟨rfl, hb3⟩
      have hb13 := hb12.trans (hb3.mono hb12.size)
      go_wp2_with (go_at_call 15; refine (HI.out _).mono ?_; rintro e w4 ⟨rfl, rfl⟩)
      go_ret
      exact ⟨rfl, hb13⟩
    · obtain ⟨at_, c, hc, hE, hF⟩ := encode_fault w p hg.1 a cap l h h130 hok
      have HE := Hid.mk' hE
      have HF := Hid.mk' hF
      have HI : Hid (∀ W v B, Below w.heap.size w W → Flt W v B at_ (p c) → _) := fun W v B hb hf => lawIs_fault v B at_ c W p (hg.1.below hb) (hg.2.below hb) hc hf
      clear hg h hE hF hc hok
      go_enter Tryd.func7, Tryd.ntmps7
      go_wp2_with fail
      refine HA.out.mono ?_
      rintro e w1 ⟨rfl, hb1⟩
      go_wp2_with fail
      refine (HE.out w1 hb1).mono ?_
      rintro e w2 ⟨⟨fv, rfl, hf⟩, hb2⟩
      have hb12 := hb1.trans (hb2.mono hb1.size)
      have HFL : Hid (∀ W, Below w2.heap.size w2 W → Flt W fv w1.heap.size at_ (p c)) := fun W hW => by
        obtain ⟨b, q1, q2, q3, q4⟩ := hf
        exact ⟨b, q1, q2, (hW.cell (p := ⟨b, 0, none⟩) (lt_of_cell q3)).trans q3, (hW.cell (p := ⟨b, 1, none⟩) (lt_of_cell q4)).trans q4⟩
      obtain ⟨fb, q1, rfl, q3, q4⟩ := hf
      clear q3 q4
      go_wp2_with fail
      refine (HF.out w2 hb12).mono ?_
      rintro e w3 ⟨rfl, hb3⟩
      have hb13 := hb12.trans (hb3.mono hb12.size)
      have HI2 := Hid.mk' (HI.out w3 _ _ hb13 (HFL.out w3 hb3))
      clear HFL HI
      go_wp2_with (go_at_call 15; refine HI2.out.mono ?_; rintro e w4 ⟨rfl, hb4⟩)
      go_ret
      exact ⟨rfl, hb13.trans (hb4.mono hb13.size)⟩
  · have hd : decide (130 < l.length) = true := decide_eq_true (by omega)
    clear hg h
    go_enter Tryd.func7, Tryd.ntmps7
    go_wp2_with fail
    refine HA.out.mono ?_
    rintro e w1 ⟨rfl, hb1⟩
    go_wp2
    go_ret
    exact ⟨rfl, hb1⟩
end Go.Proofs.YtockmkcoehepiaaDoor

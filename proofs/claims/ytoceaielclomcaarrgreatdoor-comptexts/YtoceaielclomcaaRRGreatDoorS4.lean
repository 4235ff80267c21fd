/-
  What is proved here: what slices.symMergeCmpFunc does to a row of runes, whatever it is.
-/
import Derived.Test.YtoceaielclomcaaRRGreatDoorS4a
import Derived.Test.YtoceaielclomcaaRRGreatDoorS4b
import Derived.Deep.CutRange
namespace Go.Proofs.YtoceaielclomcaaRRGreatDoor
open Go.RowKit Go.Sort

set_option maxRecDepth 20000 in
set_option maxHeartbeats 16000000 in
theorem symMerge_any (c : Int → Int) (g : Nat) (cb : Array Value) (cf : Int → Int → Int) (hcf : ∀ x y, decide (cf x y < 0) = decide (c x < c y)) (eg : ∀ args w, (callFunc g args).run Tryz.prog w = .ok (.enter g args) w) (w0 : World) (blk off cap : Nat) (L0 : List Int) (R : RL w0 blk off L0) (hcm : CmpL g cb cf blk off L0.length w0) (hs : L0.length ≤ 1073741824) : ∀ (N a m b : Nat) (L : List Int) (w : World), b - a ≤ N → a < m → m < b → b ≤ L.length → L.length = L0.length → Srt c a m L → Srt c m b L → SL w0 blk off L w →
    Calls Tryz.prog 164 #[.slice (some ⟨blk, off, none⟩) L0.length cap, .int .i64 a, .int .i64 m, .int .i64 b, .func (.func g) #[] cb] w fun e w' => e = .returned (.tuple #[]) ∧ ∃ L', Bub c a b L L' ∧ Srt c a b L' ∧ SL w0 blk off L' w' := by
  intro N
  induction N with
  | zero => intro a m b L w h1 h2 h3; omega
  | succ N ih =>
    intro a m b L w hN ham hmb hbl hl h1 h2 S
    by_cases hm1 : m = a + 1
    · exact symLeft_any c g cb cf hcf eg w0 blk off cap L0 R hcm hs a m b L w hm1 hmb hbl hl (by rw [← hm1]; exact h2) S
    by_cases hb1 : b = m + 1
    · exact symRight_any c g cb cf hcf eg w0 blk off cap L0 R hcm hs a m b L w (by omega) hb1 hbl hl h1 S
    obtain ⟨mid, hmid⟩ : ∃ mid, (a + b) / 2 = mid := ⟨_, rfl⟩
    have HREC : (∀ (a' m' b' : Nat) (L : List Int) (w : World), (a' = a ∧ b' = mid ∨ a' = mid ∧ b' = b) → a' < m' → m' < b' → L.length = L0.length → Srt c a' m' L → Srt c m' b' L → SL w0 blk off L w → Calls Tryz.prog 164 #[.slice (some ⟨blk, off, none⟩) L0.length cap, .int .i64 a', .int .i64 m', .int .i64 b', .func (.func g) #[] cb] w fun e w' => e = .returned (.tuple #[]) ∧ ∃ L', Bub c a' b' L L' ∧ Srt c a' b' L' ∧ SL w0 blk off L' w') := fun a' m' b' L' w' hab h3 h4 h5 h6 h7 h8 => ih a' m' b' L' w' (by omega) h3 h4 (by omega) h5 h6 h7 h8
    by_cases hside : mid < m
    · exact symHigh_any c g cb cf hcf eg w0 blk off cap L0 R hcm hs a m b mid L w ham hmb hm1 hb1 hmid hside hbl hl h1 h2 S HREC
    · exact symLow_any c g cb cf hcf eg w0 blk off cap L0 R hcm hs a m b mid L w ham hmb hm1 hb1 hmid (by omega) hbl hl h1 h2 S HREC
end Go.Proofs.YtoceaielclomcaaRRGreatDoor

/-
  What is proved here: what the law PunyNumbers answers.
-/
import Derived.Test.YtockmkcoehepiaaDoorZE
namespace Go.Proofs.YtockmkcoehepiaaDoor
open Go.RowKit

set_option maxRecDepth 20000 in
set_option maxHeartbeats 1000000 in
theorem numbers_any (w : World) (p : Nat → Addr) (hg : Gl p w ∧ Et w) (d : Int) (_wd : (Lit.int .i64 d).wf = true) (many : Int) (_wm : (Lit.int .i64 many).wf = true) (first : Bool) :
    Calls Tryd.prog 9 #[.int .i64 d, .int .i64 many, .bool first] w fun e w' => e = .returned (.bool true) ∧ Below w.heap.size w w' := by
  have HA := Hid.mk' (awake6_any w p hg.1 hg.2)
  have HB1 : Hid (∀ W, _) := fun W => bias_any d many first W
  have HB2 : Hid (∀ W, _) := fun W => refBias_any d many first W
  have HD1 : Hid (∀ W, _) := fun W => Digits_any d many W
  have HD2 : Hid (∀ W, _) := fun W => refDigits_any d many W
  generalize biasM (numC d) (manyC many) first = b at *
  generalize strOfNums (digM (numC d) (biasC many)) = s at *
  clear hg
  go_enter Tryd.func9, Tryd.ntmps9
  go_wp2_with fail
  refine HA.out.mono ?_
  rintro e w1 ⟨rfl, hb1⟩
  go_wp2_with fail
  refine (HB1.out _).mono ?_
  rintro e w2 ⟨rfl, rfl⟩
  go_wp2_with fail
  refine (HB2.out _).mono ?_
  rintro e w2 ⟨rfl, rfl⟩
  go_wp2_with fail
  refine (HD1.out _).mono ?_
  rintro e w2 ⟨rfl, hb2⟩
  go_wp2_with fail
  refine (HD2.out _).mono ?_
  rintro e w3 ⟨rfl, hb3⟩
  go_wp2
  go_ret
  have hb12 := hb1.trans (hb2.mono hb1.size)
  exact ⟨rfl, hb12.trans (hb3.mono hb12.size)⟩
end Go.Proofs.YtockmkcoehepiaaDoor

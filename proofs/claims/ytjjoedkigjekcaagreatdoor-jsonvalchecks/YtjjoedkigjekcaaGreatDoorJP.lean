/-
  What is proved here: what the laws ask of jsonval's functions.
-/
import Derived.Test.YtjjoedkigjekcaaGreatDoorMK
import Derived.Test.YtjjoedkigjekcaaGreatDoorKD
import Derived.Test.YtjjoedkigjekcaaGreatDoorKJ
import Derived.Test.YtjjoedkigjekcaaGreatDoorJE
import Derived.Test.YtjjoedkigjekcaaGreatDoorML
namespace Go.Proofs.YtjjoedkigjekcaaGreatDoor
open Go.RowKit

theorem int12_one (w : World) :
    Calls Tryz.prog 31 #[.int .i64 1] w fun e w' => (∃ cs, e = .returned (.agg cs.toArray) ∧ VJ w' (.mk 3 [49] [] []) cs) ∧ Below w.heap.size w w' := by
  refine intOf_any 1 [49] w fun W _ => ?_
  have h := Tryz.strconv_Itoa_small 1 (by omega) W
  refine h.mono ?_
  rintro e w' ⟨rfl, rfl⟩
  refine ⟨?_, Below.refl _ _⟩
  rw [Lib.decDigits_one (by omega)]
  rfl
theorem equal12_any (t t' : J) (cs cs' : List Value) (w : World) (hv : VJ w t cs) (hv' : VJ w t' cs') (hw : weight t ≤ 4000) (hw' : weight t' ≤ 4000) (hg : Good gd t) (hg' : Good gd t') :
    Calls Tryz.prog 24 #[.agg cs.toArray, .agg cs'.toArray] w fun e w' => (∃ z : Bool, e = .returned (.bool z) ∧ (z = true ↔ Eqv t t')) ∧ Below w.heap.size w w' :=
  eqAt_any t hw hg t' cs cs' w hv hv' hw' hg'
end Go.Proofs.YtjjoedkigjekcaaGreatDoor

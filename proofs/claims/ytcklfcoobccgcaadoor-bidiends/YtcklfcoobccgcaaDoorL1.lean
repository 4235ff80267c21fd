/-
  What is proved here: what contexts' Rule and stands answer, and slices.IndexFunc and ContainsFunc at runes, whatever function is handed in; the reference's Rule.
-/
import Derived.Test.YtcklfcoobccgcaaDoorK0
import Derived.Test.YtcklfcoobccgcaaDoorK1
namespace Go.Proofs.YtcklfcoobccgcaaDoor
open Go.RowKit Go.Shelf

/-- what is asked of a function value that tells of a rune whether it is what is meant -/
def Tells (F : Nat) (lb : Array Value) (g : Int → Bool) (w : World) : Prop :=
  ∀ W r, Below w.heap.size w W → Calls Tryd.prog F (#[.int .i32 r] ++ lb) W fun e w' => e = .returned (.bool (g r)) ∧ Below W.heap.size W w'
theorem Tells.below {F : Nat} {lb : Array Value} {g : Int → Bool} {w w' : World} (h : Tells F lb g w) (hb : Below w.heap.size w w') : Tells F lb g w' :=
  fun W r hW => h W r (hb.trans (hW.mono hb.size))
end Go.Proofs.YtcklfcoobccgcaaDoor

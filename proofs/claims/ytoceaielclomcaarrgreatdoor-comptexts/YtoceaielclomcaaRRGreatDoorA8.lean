/-
  What is proved here: what chainOf answers.
-/
import Derived.Test.YtoceaielclomcaaRRGreatDoorA6
namespace Go.Proofs.YtoceaielclomcaaRRGreatDoor
open Go.RowKit

/-- how many rows the chain of the row number i has -/
def chainAt (l : List Rw) (i : Nat) : Nat := 1 + chainIn l i (rw_ l i).to0
end Go.Proofs.YtoceaielclomcaaRRGreatDoor

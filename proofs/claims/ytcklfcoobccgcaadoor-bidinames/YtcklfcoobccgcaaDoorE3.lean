/-
  What is proved here: what the reference's Check answers.
-/
import Derived.Test.YtcklfcoobccgcaaDoorA1
import Derived.Test.YtcklfcoobccgcaaDoorA9
import Derived.Test.YtcklfcoobccgcaaDoorR1
import Derived.Lib.OwnBridge
import Derived.Maps.AppendAt
import Derived.Deep.RegionHeld3
import Derived.Shelf.SlicesE.Reverse
import Derived.Test.YtcklfcoobccgcaaDoorProg
import Derived.Maps.Keyed
import Derived.WideKeyPair
namespace Go.Proofs.YtcklfcoobccgcaaDoor
open Go.RowKit

theorem ret_two {a b : Nat × Nat} (h : a = b) : Ending.returned (.tuple #[.int .i64 b.1, .int .i64 b.2]) = .returned (.tuple #[.int .i64 a.1, .int .i64 a.2]) := by rw [h]
end Go.Proofs.YtcklfcoobccgcaaDoor

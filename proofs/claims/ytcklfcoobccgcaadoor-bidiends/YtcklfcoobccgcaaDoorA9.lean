/-
  What is proved here: what checkRows answers, where slices.Sort does what it says.
-/
import Derived.Test.YtcklfcoobccgcaaDoorA1
import Derived.Laws.OwnMore
import Derived.Laws.MakeOwn
import Derived.Lib.OwnBridge
import Derived.Maps.AppendAt
import Derived.Deep.RegionHeld3
import Derived.Shelf.SlicesE.Reverse
import Derived.Test.YtcklfcoobccgcaaDoorProg
namespace Go.Proofs.YtcklfcoobccgcaaDoor
open Go.RowKit

/-- a Fault that is laid just now -/
theorem flt_new {W : World} {base : Nat} (hB : base ≤ W.heap.size) (x : Int) (q : Addr) : Flt (W.alloc (.cells #[.int .i64 x, .iface 117 (.pointer (some q))] 59)) (.iface 55 (.pointer (some ⟨W.heap.size, 0, none⟩))) base x q :=
  ⟨W.heap.size, hB, rfl, by rw [World.cell?_alloc_new]; rfl, by rw [World.cell?_alloc_new]; rfl⟩
end Go.Proofs.YtcklfcoobccgcaaDoor

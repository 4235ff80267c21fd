/-
  What is proved here: what the reference's Check of layer 7 answers, of any properties.
-/
import Derived.Test.YtlnehhfljjeifaaDoorL4
import Derived.Test.YtlnehhfljjeifaaDoorE3
namespace Go.Proofs.YtlnehhfljjeifaaDoor
open Go.RowKit Go.Shelf

end Go.Proofs.YtlnehhfljjeifaaDoor

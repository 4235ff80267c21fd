/-
  DERIVED. GIVEN WITH THE SEED: THE CARDS: each row of YtjnbkcdjmhbkcaaDoorRows.lean that lists a variable, with what it lists TIED to the program's text (the seventh form; the later family's looks); each row that meets fmt, with fmt's text TOLD by the authors' own Lean function (tested against real Go, not proved from fmt's source: count such statements apart). THE CARD IS WHAT COUNTS. Prove the row's statement (the work); the ties are given (YtjnbkcdjmhbkcaaDoorTie.lean); close each card by the builder's one call (the guide's Derived/Test/ToyasCard.lean, 'card_holds'). Laid BY PROGRAM, IN A SANDBOX (cutbox-door.mjs). By AI agents, Wed Nov 11 2026. No macro, syntax, notation, axiom, sorry.
-/
import Derived.Test.YtjnbkcdjmhbkcaaDoorRows
import GoSem.ClaimSeven
namespace Go.Proofs.YtjnbkcdjmhbkcaaDoor
namespace Rows

/-- THE TIED CARD OF 'eponymlaw04.DecompChecks'. -/
def decompChecksCard : Claim7 := { stood := { row := decompChecksRow, standIns := [], harness := (true, "c58923020278cb600cecf858c3cec8f39259c27a3a568f6990cb247aef54f495"), looks := true }, kinds := [], alts := [], laidByText := true, laidKinds := [.handle, .sentinel, .sentinel, .sentinel, .sentinel, .sentinel, .sentinel, .sentinel, .sentinel, .sentinel, .sentinel, .sentinel, .sentinel, .sentinel, .sentinel, .sentinel, .sentinel, .sentinel, .sentinel, .data], laidTests := true, laidLooks := .later }
def DecompChecksCardSaid : Prop := Claim7.holds Tryd.pinned (.plain (OpenSpec.ofChange decompChecksSpec)) decompChecksCard

/-- THE TIED CARD OF 'eponymlaw04.DecompOnes'. -/
def decompOnesCard : Claim7 := { stood := { row := decompOnesRow, standIns := [], harness := (true, "c58923020278cb600cecf858c3cec8f39259c27a3a568f6990cb247aef54f495"), looks := true }, kinds := [], alts := [], laidByText := true, laidKinds := [.sentinel, .sentinel, .sentinel, .sentinel, .sentinel, .sentinel, .sentinel, .data], laidTests := true, laidLooks := .later }
def DecompOnesCardSaid : Prop := Claim7.holds Tryd.pinned (.plain (OpenSpec.ofChange decompOnesSpec)) decompOnesCard

/-- THE TIED CARD OF 'eponymlaw04.DecompAlls'. -/
def decompAllsCard : Claim7 := { stood := { row := decompAllsRow, standIns := [], harness := (true, "c58923020278cb600cecf858c3cec8f39259c27a3a568f6990cb247aef54f495"), looks := true }, kinds := [], alts := [], laidByText := true, laidKinds := [.sentinel, .sentinel, .sentinel, .sentinel, .sentinel, .sentinel, .sentinel, .data], laidTests := true, laidLooks := .later }
def DecompAllsCardSaid : Prop := Claim7.holds Tryd.pinned (.plain (OpenSpec.ofChange decompAllsSpec)) decompAllsCard

/-- THE TIED CARD OF 'eponymlaw04.DecompStays'. -/
def decompStaysCard : Claim7 := { stood := { row := decompStaysRow, standIns := [], harness := (true, "c58923020278cb600cecf858c3cec8f39259c27a3a568f6990cb247aef54f495"), looks := true }, kinds := [], alts := [], laidByText := true, laidKinds := [.sentinel, .sentinel, .sentinel, .sentinel, .sentinel, .sentinel, .sentinel, .data], laidTests := true, laidLooks := .later }
def DecompStaysCardSaid : Prop := Claim7.holds Tryd.pinned (.plain (OpenSpec.ofChange decompStaysSpec)) decompStaysCard

/-- THE TIED CARD OF 'eponymlaw04.DecompSyllables'. -/
def decompSyllablesCard : Claim7 := { stood := { row := decompSyllablesRow, standIns := [], harness := (true, "c58923020278cb600cecf858c3cec8f39259c27a3a568f6990cb247aef54f495"), looks := true }, kinds := [], alts := [], laidByText := true, laidKinds := [.sentinel, .sentinel, .sentinel, .sentinel, .sentinel, .sentinel, .sentinel, .data], laidTests := true, laidLooks := .later }
def DecompSyllablesCardSaid : Prop := Claim7.holds Tryd.pinned (.plain (OpenSpec.ofChange decompSyllablesSpec)) decompSyllablesCard

/-- THE SECOND FORM's CARD OF 'eponymlaw04.DecompChecks'. -/
def decompChecksUptoCard : Claim7 := { stood := { row := decompChecksUptoRow, standIns := [], harness := (true, "c58923020278cb600cecf858c3cec8f39259c27a3a568f6990cb247aef54f495"), looks := true }, kinds := [], alts := [], laidByText := true, laidKinds := [.handle, .sentinel, .sentinel, .sentinel, .sentinel, .sentinel, .sentinel, .sentinel, .sentinel, .sentinel, .sentinel, .sentinel, .sentinel, .sentinel, .sentinel, .sentinel, .sentinel, .sentinel, .sentinel, .data], laidTests := true, laidLooks := .later }
def DecompChecksUptoCardSaid : Prop := Claim7.holds Tryd.pinned (.plain (OpenSpec.upto decompChecksSpec)) decompChecksUptoCard

/-- THE SECOND FORM's CARD OF 'eponymlaw04.DecompOnes'. -/
def decompOnesUptoCard : Claim7 := { stood := { row := decompOnesUptoRow, standIns := [], harness := (true, "c58923020278cb600cecf858c3cec8f39259c27a3a568f6990cb247aef54f495"), looks := true }, kinds := [], alts := [], laidByText := true, laidKinds := [.sentinel, .sentinel, .sentinel, .sentinel, .sentinel, .sentinel, .sentinel, .data], laidTests := true, laidLooks := .later }
def DecompOnesUptoCardSaid : Prop := Claim7.holds Tryd.pinned (.plain (OpenSpec.upto decompOnesSpec)) decompOnesUptoCard

/-- THE SECOND FORM's CARD OF 'eponymlaw04.DecompAlls'. -/
def decompAllsUptoCard : Claim7 := { stood := { row := decompAllsUptoRow, standIns := [], harness := (true, "c58923020278cb600cecf858c3cec8f39259c27a3a568f6990cb247aef54f495"), looks := true }, kinds := [], alts := [], laidByText := true, laidKinds := [.sentinel, .sentinel, .sentinel, .sentinel, .sentinel, .sentinel, .sentinel, .data], laidTests := true, laidLooks := .later }
def DecompAllsUptoCardSaid : Prop := Claim7.holds Tryd.pinned (.plain (OpenSpec.upto decompAllsSpec)) decompAllsUptoCard

/-- THE SECOND FORM's CARD OF 'eponymlaw04.DecompStays'. -/
def decompStaysUptoCard : Claim7 := { stood := { row := decompStaysUptoRow, standIns := [], harness := (true, "c58923020278cb600cecf858c3cec8f39259c27a3a568f6990cb247aef54f495"), looks := true }, kinds := [], alts := [], laidByText := true, laidKinds := [.sentinel, .sentinel, .sentinel, .sentinel, .sentinel, .sentinel, .sentinel, .data], laidTests := true, laidLooks := .later }
def DecompStaysUptoCardSaid : Prop := Claim7.holds Tryd.pinned (.plain (OpenSpec.upto decompStaysSpec)) decompStaysUptoCard

/-- THE SECOND FORM's CARD OF 'eponymlaw04.DecompSyllables'. -/
def decompSyllablesUptoCard : Claim7 := { stood := { row := decompSyllablesUptoRow, standIns := [], harness := (true, "c58923020278cb600cecf858c3cec8f39259c27a3a568f6990cb247aef54f495"), looks := true }, kinds := [], alts := [], laidByText := true, laidKinds := [.sentinel, .sentinel, .sentinel, .sentinel, .sentinel, .sentinel, .sentinel, .data], laidTests := true, laidLooks := .later }
def DecompSyllablesUptoCardSaid : Prop := Claim7.holds Tryd.pinned (.plain (OpenSpec.upto decompSyllablesSpec)) decompSyllablesUptoCard
end Rows
end Go.Proofs.YtjnbkcdjmhbkcaaDoor

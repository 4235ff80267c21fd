/-
  DERIVED. GIVEN WITH THE SEED: THE CARDS: each row of YtojpkkbagcahdaaDoorRows.lean that lists a variable, with what it lists TIED to the program's text (the seventh form; the later family's looks); each row that meets fmt, with fmt's text TOLD by the authors' own Lean function (tested against real Go, not proved from fmt's source: count such statements apart). THE CARD IS WHAT COUNTS. Prove the row's statement (the work); the ties are given (YtojpkkbagcahdaaDoorTie.lean); close each card by the builder's one call (the guide's Derived/Test/ToyasCard.lean, 'card_holds'). Laid BY PROGRAM, IN A SANDBOX (cutbox-door.mjs). By AI agents, Wed Nov 11 2026. No macro, syntax, notation, axiom, sorry.
-/
import Derived.Test.YtojpkkbagcahdaaDoorRows
import GoSem.ClaimSeven
namespace Go.Proofs.YtojpkkbagcahdaaDoor
namespace Rows

/-- THE TIED CARD OF 'eponymlaw04.DecompChecks'. -/
def decompChecksCard : Claim7 := { stood := { row := decompChecksRow, standIns := [], harness := (true, "a095dd4a776f52c36c6f2a8c62693dfcb44c8ca8fb9fe22698ff9b9b95596b29"), looks := true }, kinds := [], alts := [], laidByText := true, laidKinds := [.handle, .sentinel, .sentinel, .sentinel, .sentinel, .sentinel, .sentinel, .sentinel, .sentinel, .sentinel, .sentinel, .sentinel, .sentinel, .sentinel, .sentinel, .sentinel, .sentinel, .sentinel, .sentinel, .data], laidTests := true, laidLooks := .later }
def DecompChecksCardSaid : Prop := Claim7.holds Tryd.pinned (.plain (OpenSpec.ofChange decompChecksSpec)) decompChecksCard

/-- THE TIED CARD OF 'eponymlaw04.DecompStays'. -/
def decompStaysCard : Claim7 := { stood := { row := decompStaysRow, standIns := [], harness := (true, "a095dd4a776f52c36c6f2a8c62693dfcb44c8ca8fb9fe22698ff9b9b95596b29"), looks := true }, kinds := [], alts := [], laidByText := true, laidKinds := [.sentinel, .sentinel, .sentinel, .sentinel, .sentinel, .sentinel, .sentinel, .data], laidTests := true, laidLooks := .later }
def DecompStaysCardSaid : Prop := Claim7.holds Tryd.pinned (.plain (OpenSpec.ofChange decompStaysSpec)) decompStaysCard

/-- THE TIED CARD OF 'eponymlaw05.CompStays'. -/
def compStaysCard : Claim7 := { stood := { row := compStaysRow, standIns := [], harness := (true, "a095dd4a776f52c36c6f2a8c62693dfcb44c8ca8fb9fe22698ff9b9b95596b29"), looks := true }, kinds := [], alts := [], laidByText := true, laidKinds := [.sentinel, .sentinel, .sentinel, .sentinel, .sentinel, .sentinel, .sentinel, .data], laidTests := true, laidLooks := .later }
def CompStaysCardSaid : Prop := Claim7.holds Tryd.pinned (.plain (OpenSpec.ofChange compStaysSpec)) compStaysCard

/-- THE TIED CARD OF 'eponymlaw05.CompSame'. -/
def compSameCard : Claim7 := { stood := { row := compSameRow, standIns := [], harness := (true, "a095dd4a776f52c36c6f2a8c62693dfcb44c8ca8fb9fe22698ff9b9b95596b29"), looks := true }, kinds := [], alts := [], laidByText := true, laidKinds := [.sentinel, .sentinel, .sentinel, .sentinel, .sentinel, .sentinel, .sentinel, .data], laidTests := true, laidLooks := .later }
def CompSameCardSaid : Prop := Claim7.holds Tryd.pinned (.plain (OpenSpec.ofChange compSameSpec)) compSameCard

/-- THE SECOND FORM's CARD OF 'eponymlaw04.DecompChecks'. -/
def decompChecksUptoCard : Claim7 := { stood := { row := decompChecksUptoRow, standIns := [], harness := (true, "a095dd4a776f52c36c6f2a8c62693dfcb44c8ca8fb9fe22698ff9b9b95596b29"), looks := true }, kinds := [], alts := [], laidByText := true, laidKinds := [.handle, .sentinel, .sentinel, .sentinel, .sentinel, .sentinel, .sentinel, .sentinel, .sentinel, .sentinel, .sentinel, .sentinel, .sentinel, .sentinel, .sentinel, .sentinel, .sentinel, .sentinel, .sentinel, .data], laidTests := true, laidLooks := .later }
def DecompChecksUptoCardSaid : Prop := Claim7.holds Tryd.pinned (.plain (OpenSpec.upto decompChecksSpec)) decompChecksUptoCard

/-- THE SECOND FORM's CARD OF 'eponymlaw04.DecompStays'. -/
def decompStaysUptoCard : Claim7 := { stood := { row := decompStaysUptoRow, standIns := [], harness := (true, "a095dd4a776f52c36c6f2a8c62693dfcb44c8ca8fb9fe22698ff9b9b95596b29"), looks := true }, kinds := [], alts := [], laidByText := true, laidKinds := [.sentinel, .sentinel, .sentinel, .sentinel, .sentinel, .sentinel, .sentinel, .data], laidTests := true, laidLooks := .later }
def DecompStaysUptoCardSaid : Prop := Claim7.holds Tryd.pinned (.plain (OpenSpec.upto decompStaysSpec)) decompStaysUptoCard

/-- THE SECOND FORM's CARD OF 'eponymlaw05.CompStays'. -/
def compStaysUptoCard : Claim7 := { stood := { row := compStaysUptoRow, standIns := [], harness := (true, "a095dd4a776f52c36c6f2a8c62693dfcb44c8ca8fb9fe22698ff9b9b95596b29"), looks := true }, kinds := [], alts := [], laidByText := true, laidKinds := [.sentinel, .sentinel, .sentinel, .sentinel, .sentinel, .sentinel, .sentinel, .data], laidTests := true, laidLooks := .later }
def CompStaysUptoCardSaid : Prop := Claim7.holds Tryd.pinned (.plain (OpenSpec.upto compStaysSpec)) compStaysUptoCard

/-- THE SECOND FORM's CARD OF 'eponymlaw05.CompSame'. -/
def compSameUptoCard : Claim7 := { stood := { row := compSameUptoRow, standIns := [], harness := (true, "a095dd4a776f52c36c6f2a8c62693dfcb44c8ca8fb9fe22698ff9b9b95596b29"), looks := true }, kinds := [], alts := [], laidByText := true, laidKinds := [.sentinel, .sentinel, .sentinel, .sentinel, .sentinel, .sentinel, .sentinel, .data], laidTests := true, laidLooks := .later }
def CompSameUptoCardSaid : Prop := Claim7.holds Tryd.pinned (.plain (OpenSpec.upto compSameSpec)) compSameUptoCard
end Rows
end Go.Proofs.YtojpkkbagcahdaaDoor

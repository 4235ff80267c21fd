/-
  DERIVED. GIVEN WITH THE SEED: THE CARDS: each row of YtdokdmfpoajphaaDoorRows.lean that lists a variable, with what it lists TIED to the program's text (the seventh form; the later family's looks); each row that meets fmt, with fmt's text TOLD by the authors' own Lean function (tested against real Go, not proved from fmt's source: count such statements apart). THE CARD IS WHAT COUNTS. Prove the row's statement (the work); the ties are given (YtdokdmfpoajphaaDoorTie.lean); close each card by the builder's one call (the guide's Derived/Test/ToyasCard.lean, 'card_holds'). Laid BY PROGRAM, IN A SANDBOX (cutbox-door.mjs). By AI agents, Wed Nov 11 2026. No macro, syntax, notation, axiom, sorry.
-/
import Derived.Test.YtdokdmfpoajphaaDoorRows
import GoSem.ClaimSeven
namespace Go.Proofs.YtdokdmfpoajphaaDoor
namespace Rows

/-- THE TIED CARD OF 'eponymlaw05.CompPairs'. -/
def compPairsCard : Claim7 := { stood := { row := compPairsRow, standIns := [], harness := (true, "1730577557978bcbaa70f25f94e7229225eee19f277757378131e8989926cf3a"), looks := true }, kinds := [], alts := [], laidByText := true, laidKinds := [.data], laidTests := true, laidLooks := .later }
def CompPairsCardSaid : Prop := Claim7.holds Tryd.pinned (.plain (OpenSpec.ofChange compPairsSpec)) compPairsCard

/-- THE TIED CARD OF 'eponymlaw05.CompPuts'. -/
def compPutsCard : Claim7 := { stood := { row := compPutsRow, standIns := [], harness := (true, "1730577557978bcbaa70f25f94e7229225eee19f277757378131e8989926cf3a"), looks := true }, kinds := [], alts := [], laidByText := true, laidKinds := [.data], laidTests := true, laidLooks := .later }
def CompPutsCardSaid : Prop := Claim7.holds Tryd.pinned (.plain (OpenSpec.ofChange compPutsSpec)) compPutsCard

/-- THE TIED CARD OF 'eponymlaw05.CompStays'. -/
def compStaysCard : Claim7 := { stood := { row := compStaysRow, standIns := [], harness := (true, "1730577557978bcbaa70f25f94e7229225eee19f277757378131e8989926cf3a"), looks := true }, kinds := [], alts := [], laidByText := true, laidKinds := [.sentinel, .sentinel, .sentinel, .sentinel, .sentinel, .sentinel, .sentinel, .data], laidTests := true, laidLooks := .later }
def CompStaysCardSaid : Prop := Claim7.holds Tryd.pinned (.plain (OpenSpec.ofChange compStaysSpec)) compStaysCard

/-- THE TIED CARD OF 'eponymlaw05.CompSame'. -/
def compSameCard : Claim7 := { stood := { row := compSameRow, standIns := [], harness := (true, "1730577557978bcbaa70f25f94e7229225eee19f277757378131e8989926cf3a"), looks := true }, kinds := [], alts := [], laidByText := true, laidKinds := [.sentinel, .sentinel, .sentinel, .sentinel, .sentinel, .sentinel, .sentinel, .data], laidTests := true, laidLooks := .later }
def CompSameCardSaid : Prop := Claim7.holds Tryd.pinned (.plain (OpenSpec.ofChange compSameSpec)) compSameCard

/-- THE TIED CARD OF 'eponymlaw04.DecompChecks'. -/
def decompChecksCard : Claim7 := { stood := { row := decompChecksRow, standIns := [], harness := (true, "1730577557978bcbaa70f25f94e7229225eee19f277757378131e8989926cf3a"), looks := true }, kinds := [], alts := [], laidByText := true, laidKinds := [.handle, .sentinel, .sentinel, .sentinel, .sentinel, .sentinel, .sentinel, .sentinel, .sentinel, .sentinel, .sentinel, .sentinel, .sentinel, .sentinel, .sentinel, .sentinel, .sentinel, .sentinel, .sentinel, .data], laidTests := true, laidLooks := .later }
def DecompChecksCardSaid : Prop := Claim7.holds Tryd.pinned (.plain (OpenSpec.ofChange decompChecksSpec)) decompChecksCard

/-- THE TIED CARD OF 'eponymlaw04.DecompAlls'. -/
def decompAllsCard : Claim7 := { stood := { row := decompAllsRow, standIns := [], harness := (true, "1730577557978bcbaa70f25f94e7229225eee19f277757378131e8989926cf3a"), looks := true }, kinds := [], alts := [], laidByText := true, laidKinds := [.sentinel, .sentinel, .sentinel, .sentinel, .sentinel, .sentinel, .sentinel, .data], laidTests := true, laidLooks := .later }
def DecompAllsCardSaid : Prop := Claim7.holds Tryd.pinned (.plain (OpenSpec.ofChange decompAllsSpec)) decompAllsCard

/-- THE TIED CARD OF 'eponymlaw04.DecompStays'. -/
def decompStaysCard : Claim7 := { stood := { row := decompStaysRow, standIns := [], harness := (true, "1730577557978bcbaa70f25f94e7229225eee19f277757378131e8989926cf3a"), looks := true }, kinds := [], alts := [], laidByText := true, laidKinds := [.sentinel, .sentinel, .sentinel, .sentinel, .sentinel, .sentinel, .sentinel, .data], laidTests := true, laidLooks := .later }
def DecompStaysCardSaid : Prop := Claim7.holds Tryd.pinned (.plain (OpenSpec.ofChange decompStaysSpec)) decompStaysCard

/-- THE SECOND FORM's CARD OF 'eponymlaw05.CompPairs'. -/
def compPairsUptoCard : Claim7 := { stood := { row := compPairsUptoRow, standIns := [], harness := (true, "1730577557978bcbaa70f25f94e7229225eee19f277757378131e8989926cf3a"), looks := true }, kinds := [], alts := [], laidByText := true, laidKinds := [.data], laidTests := true, laidLooks := .later }
def CompPairsUptoCardSaid : Prop := Claim7.holds Tryd.pinned (.plain (OpenSpec.upto compPairsSpec)) compPairsUptoCard

/-- THE SECOND FORM's CARD OF 'eponymlaw05.CompPuts'. -/
def compPutsUptoCard : Claim7 := { stood := { row := compPutsUptoRow, standIns := [], harness := (true, "1730577557978bcbaa70f25f94e7229225eee19f277757378131e8989926cf3a"), looks := true }, kinds := [], alts := [], laidByText := true, laidKinds := [.data], laidTests := true, laidLooks := .later }
def CompPutsUptoCardSaid : Prop := Claim7.holds Tryd.pinned (.plain (OpenSpec.upto compPutsSpec)) compPutsUptoCard

/-- THE SECOND FORM's CARD OF 'eponymlaw05.CompStays'. -/
def compStaysUptoCard : Claim7 := { stood := { row := compStaysUptoRow, standIns := [], harness := (true, "1730577557978bcbaa70f25f94e7229225eee19f277757378131e8989926cf3a"), looks := true }, kinds := [], alts := [], laidByText := true, laidKinds := [.sentinel, .sentinel, .sentinel, .sentinel, .sentinel, .sentinel, .sentinel, .data], laidTests := true, laidLooks := .later }
def CompStaysUptoCardSaid : Prop := Claim7.holds Tryd.pinned (.plain (OpenSpec.upto compStaysSpec)) compStaysUptoCard

/-- THE SECOND FORM's CARD OF 'eponymlaw05.CompSame'. -/
def compSameUptoCard : Claim7 := { stood := { row := compSameUptoRow, standIns := [], harness := (true, "1730577557978bcbaa70f25f94e7229225eee19f277757378131e8989926cf3a"), looks := true }, kinds := [], alts := [], laidByText := true, laidKinds := [.sentinel, .sentinel, .sentinel, .sentinel, .sentinel, .sentinel, .sentinel, .data], laidTests := true, laidLooks := .later }
def CompSameUptoCardSaid : Prop := Claim7.holds Tryd.pinned (.plain (OpenSpec.upto compSameSpec)) compSameUptoCard

/-- THE SECOND FORM's CARD OF 'eponymlaw04.DecompChecks'. -/
def decompChecksUptoCard : Claim7 := { stood := { row := decompChecksUptoRow, standIns := [], harness := (true, "1730577557978bcbaa70f25f94e7229225eee19f277757378131e8989926cf3a"), looks := true }, kinds := [], alts := [], laidByText := true, laidKinds := [.handle, .sentinel, .sentinel, .sentinel, .sentinel, .sentinel, .sentinel, .sentinel, .sentinel, .sentinel, .sentinel, .sentinel, .sentinel, .sentinel, .sentinel, .sentinel, .sentinel, .sentinel, .sentinel, .data], laidTests := true, laidLooks := .later }
def DecompChecksUptoCardSaid : Prop := Claim7.holds Tryd.pinned (.plain (OpenSpec.upto decompChecksSpec)) decompChecksUptoCard

/-- THE SECOND FORM's CARD OF 'eponymlaw04.DecompAlls'. -/
def decompAllsUptoCard : Claim7 := { stood := { row := decompAllsUptoRow, standIns := [], harness := (true, "1730577557978bcbaa70f25f94e7229225eee19f277757378131e8989926cf3a"), looks := true }, kinds := [], alts := [], laidByText := true, laidKinds := [.sentinel, .sentinel, .sentinel, .sentinel, .sentinel, .sentinel, .sentinel, .data], laidTests := true, laidLooks := .later }
def DecompAllsUptoCardSaid : Prop := Claim7.holds Tryd.pinned (.plain (OpenSpec.upto decompAllsSpec)) decompAllsUptoCard

/-- THE SECOND FORM's CARD OF 'eponymlaw04.DecompStays'. -/
def decompStaysUptoCard : Claim7 := { stood := { row := decompStaysUptoRow, standIns := [], harness := (true, "1730577557978bcbaa70f25f94e7229225eee19f277757378131e8989926cf3a"), looks := true }, kinds := [], alts := [], laidByText := true, laidKinds := [.sentinel, .sentinel, .sentinel, .sentinel, .sentinel, .sentinel, .sentinel, .data], laidTests := true, laidLooks := .later }
def DecompStaysUptoCardSaid : Prop := Claim7.holds Tryd.pinned (.plain (OpenSpec.upto decompStaysSpec)) decompStaysUptoCard
end Rows
end Go.Proofs.YtdokdmfpoajphaaDoor

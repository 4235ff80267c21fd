/-
  DERIVED. GIVEN WITH THE SEED: THE CARDS: each row of YtockmkcoehepiaaDoorRows.lean that lists a variable, with what it lists TIED to the program's text (the seventh form; the later family's looks); each row that meets fmt, with fmt's text TOLD by the authors' own Lean function (tested against real Go, not proved from fmt's source: count such statements apart). THE CARD IS WHAT COUNTS. Prove the row's statement (the work); the ties are given (YtockmkcoehepiaaDoorTie.lean); close each card by the builder's one call (the guide's Derived/Test/ToyasCard.lean, 'card_holds'). Laid BY PROGRAM, IN A SANDBOX (cutbox-door.mjs). By AI agents, Wed Nov 11 2026. No macro, syntax, notation, axiom, sorry.
-/
import Derived.Test.YtockmkcoehepiaaDoorRows
import GoSem.ClaimSeven
namespace Go.Proofs.YtockmkcoehepiaaDoor
namespace Rows

/-- THE TIED CARD OF 'eponymlaw04.DecompChecks'. -/
def decompChecksCard : Claim7 := { stood := { row := decompChecksRow, standIns := [], harness := (true, "b1439efc763168d50eece82fb76c86e8ca2995a7c6b3343b21356ab2b37152bb"), looks := true }, kinds := [], alts := [], laidByText := true, laidKinds := [.handle, .sentinel, .sentinel, .sentinel, .sentinel, .sentinel, .sentinel, .sentinel, .sentinel, .sentinel, .sentinel, .sentinel, .sentinel, .sentinel, .sentinel, .sentinel, .sentinel, .sentinel, .sentinel, .data], laidTests := true, laidLooks := .later }
def DecompChecksCardSaid : Prop := Claim7.holds Tryd.pinned (.plain (OpenSpec.ofChange decompChecksSpec)) decompChecksCard

/-- THE TIED CARD OF 'eponymlaw04.DecompStays'. -/
def decompStaysCard : Claim7 := { stood := { row := decompStaysRow, standIns := [], harness := (true, "b1439efc763168d50eece82fb76c86e8ca2995a7c6b3343b21356ab2b37152bb"), looks := true }, kinds := [], alts := [], laidByText := true, laidKinds := [.sentinel, .sentinel, .sentinel, .sentinel, .sentinel, .sentinel, .sentinel, .data], laidTests := true, laidLooks := .later }
def DecompStaysCardSaid : Prop := Claim7.holds Tryd.pinned (.plain (OpenSpec.ofChange decompStaysSpec)) decompStaysCard

/-- THE TIED CARD OF 'eponymlaw05.CompStays'. -/
def compStaysCard : Claim7 := { stood := { row := compStaysRow, standIns := [], harness := (true, "b1439efc763168d50eece82fb76c86e8ca2995a7c6b3343b21356ab2b37152bb"), looks := true }, kinds := [], alts := [], laidByText := true, laidKinds := [.sentinel, .sentinel, .sentinel, .sentinel, .sentinel, .sentinel, .sentinel, .data], laidTests := true, laidLooks := .later }
def CompStaysCardSaid : Prop := Claim7.holds Tryd.pinned (.plain (OpenSpec.ofChange compStaysSpec)) compStaysCard

/-- THE TIED CARD OF 'eponymlaw05.CompSame'. -/
def compSameCard : Claim7 := { stood := { row := compSameRow, standIns := [], harness := (true, "b1439efc763168d50eece82fb76c86e8ca2995a7c6b3343b21356ab2b37152bb"), looks := true }, kinds := [], alts := [], laidByText := true, laidKinds := [.sentinel, .sentinel, .sentinel, .sentinel, .sentinel, .sentinel, .sentinel, .data], laidTests := true, laidLooks := .later }
def CompSameCardSaid : Prop := Claim7.holds Tryd.pinned (.plain (OpenSpec.ofChange compSameSpec)) compSameCard

/-- THE TIED CARD OF 'eponymlaw06.PunyEncodes'. -/
def punyEncodesCard : Claim7 := { stood := { row := punyEncodesRow, standIns := [], harness := (true, "b1439efc763168d50eece82fb76c86e8ca2995a7c6b3343b21356ab2b37152bb"), looks := true }, kinds := [], alts := [], laidByText := true, laidKinds := [.handle, .sentinel, .sentinel, .sentinel, .sentinel, .sentinel, .sentinel, .sentinel, .sentinel, .sentinel, .sentinel, .sentinel, .sentinel, .sentinel, .sentinel, .sentinel, .sentinel, .sentinel, .sentinel], laidTests := true, laidLooks := .later }
def PunyEncodesCardSaid : Prop := Claim7.holds Tryd.pinned (.plain (OpenSpec.ofChange punyEncodesSpec)) punyEncodesCard

/-- THE TIED CARD OF 'eponymlaw06.PunyDecodes'. -/
def punyDecodesCard : Claim7 := { stood := { row := punyDecodesRow, standIns := [], harness := (true, "b1439efc763168d50eece82fb76c86e8ca2995a7c6b3343b21356ab2b37152bb"), looks := true }, kinds := [], alts := [], laidByText := true, laidKinds := [.handle, .sentinel, .sentinel, .sentinel, .sentinel, .sentinel, .sentinel, .sentinel, .sentinel, .sentinel, .sentinel, .sentinel, .sentinel, .sentinel, .sentinel, .sentinel, .sentinel, .sentinel, .sentinel], laidTests := true, laidLooks := .later }
def PunyDecodesCardSaid : Prop := Claim7.holds Tryd.pinned (.plain (OpenSpec.ofChange punyDecodesSpec)) punyDecodesCard

/-- THE TIED CARD OF 'eponymlaw06.PunyNumbers'. -/
def punyNumbersCard : Claim7 := { stood := { row := punyNumbersRow, standIns := [], harness := (true, "b1439efc763168d50eece82fb76c86e8ca2995a7c6b3343b21356ab2b37152bb"), looks := true }, kinds := [], alts := [], laidByText := true, laidKinds := [.handle, .sentinel, .sentinel, .sentinel, .sentinel, .sentinel, .sentinel, .sentinel, .sentinel, .sentinel, .sentinel, .sentinel, .sentinel, .sentinel, .sentinel, .sentinel, .sentinel, .sentinel, .sentinel], laidTests := true, laidLooks := .later }
def PunyNumbersCardSaid : Prop := Claim7.holds Tryd.pinned (.plain (OpenSpec.ofChange punyNumbersSpec)) punyNumbersCard

/-- THE TIED CARD OF 'eponymlaw06.PunyBack'. -/
def punyBackCard : Claim7 := { stood := { row := punyBackRow, standIns := [], harness := (true, "b1439efc763168d50eece82fb76c86e8ca2995a7c6b3343b21356ab2b37152bb"), looks := true }, kinds := [], alts := [], laidByText := true, laidKinds := [.handle, .sentinel, .sentinel, .sentinel, .sentinel, .sentinel, .sentinel, .sentinel, .sentinel, .sentinel, .sentinel, .sentinel, .sentinel, .sentinel, .sentinel, .sentinel, .sentinel, .sentinel, .sentinel], laidTests := true, laidLooks := .later }
def PunyBackCardSaid : Prop := Claim7.holds Tryd.pinned (.plain (OpenSpec.ofChange punyBackSpec)) punyBackCard

/-- THE TIED CARD OF 'eponymlaw06.PunyThere'. -/
def punyThereCard : Claim7 := { stood := { row := punyThereRow, standIns := [], harness := (true, "b1439efc763168d50eece82fb76c86e8ca2995a7c6b3343b21356ab2b37152bb"), looks := true }, kinds := [], alts := [], laidByText := true, laidKinds := [.handle, .sentinel, .sentinel, .sentinel, .sentinel, .sentinel, .sentinel, .sentinel, .sentinel, .sentinel, .sentinel, .sentinel, .sentinel, .sentinel, .sentinel, .sentinel, .sentinel, .sentinel, .sentinel], laidTests := true, laidLooks := .later }
def PunyThereCardSaid : Prop := Claim7.holds Tryd.pinned (.plain (OpenSpec.ofChange punyThereSpec)) punyThereCard

/-- THE SECOND FORM's CARD OF 'eponymlaw04.DecompChecks'. -/
def decompChecksUptoCard : Claim7 := { stood := { row := decompChecksUptoRow, standIns := [], harness := (true, "b1439efc763168d50eece82fb76c86e8ca2995a7c6b3343b21356ab2b37152bb"), looks := true }, kinds := [], alts := [], laidByText := true, laidKinds := [.handle, .sentinel, .sentinel, .sentinel, .sentinel, .sentinel, .sentinel, .sentinel, .sentinel, .sentinel, .sentinel, .sentinel, .sentinel, .sentinel, .sentinel, .sentinel, .sentinel, .sentinel, .sentinel, .data], laidTests := true, laidLooks := .later }
def DecompChecksUptoCardSaid : Prop := Claim7.holds Tryd.pinned (.plain (OpenSpec.upto decompChecksSpec)) decompChecksUptoCard

/-- THE SECOND FORM's CARD OF 'eponymlaw04.DecompStays'. -/
def decompStaysUptoCard : Claim7 := { stood := { row := decompStaysUptoRow, standIns := [], harness := (true, "b1439efc763168d50eece82fb76c86e8ca2995a7c6b3343b21356ab2b37152bb"), looks := true }, kinds := [], alts := [], laidByText := true, laidKinds := [.sentinel, .sentinel, .sentinel, .sentinel, .sentinel, .sentinel, .sentinel, .data], laidTests := true, laidLooks := .later }
def DecompStaysUptoCardSaid : Prop := Claim7.holds Tryd.pinned (.plain (OpenSpec.upto decompStaysSpec)) decompStaysUptoCard

/-- THE SECOND FORM's CARD OF 'eponymlaw05.CompStays'. -/
def compStaysUptoCard : Claim7 := { stood := { row := compStaysUptoRow, standIns := [], harness := (true, "b1439efc763168d50eece82fb76c86e8ca2995a7c6b3343b21356ab2b37152bb"), looks := true }, kinds := [], alts := [], laidByText := true, laidKinds := [.sentinel, .sentinel, .sentinel, .sentinel, .sentinel, .sentinel, .sentinel, .data], laidTests := true, laidLooks := .later }
def CompStaysUptoCardSaid : Prop := Claim7.holds Tryd.pinned (.plain (OpenSpec.upto compStaysSpec)) compStaysUptoCard

/-- THE SECOND FORM's CARD OF 'eponymlaw05.CompSame'. -/
def compSameUptoCard : Claim7 := { stood := { row := compSameUptoRow, standIns := [], harness := (true, "b1439efc763168d50eece82fb76c86e8ca2995a7c6b3343b21356ab2b37152bb"), looks := true }, kinds := [], alts := [], laidByText := true, laidKinds := [.sentinel, .sentinel, .sentinel, .sentinel, .sentinel, .sentinel, .sentinel, .data], laidTests := true, laidLooks := .later }
def CompSameUptoCardSaid : Prop := Claim7.holds Tryd.pinned (.plain (OpenSpec.upto compSameSpec)) compSameUptoCard

/-- THE SECOND FORM's CARD OF 'eponymlaw06.PunyEncodes'. -/
def punyEncodesUptoCard : Claim7 := { stood := { row := punyEncodesUptoRow, standIns := [], harness := (true, "b1439efc763168d50eece82fb76c86e8ca2995a7c6b3343b21356ab2b37152bb"), looks := true }, kinds := [], alts := [], laidByText := true, laidKinds := [.handle, .sentinel, .sentinel, .sentinel, .sentinel, .sentinel, .sentinel, .sentinel, .sentinel, .sentinel, .sentinel, .sentinel, .sentinel, .sentinel, .sentinel, .sentinel, .sentinel, .sentinel, .sentinel], laidTests := true, laidLooks := .later }
def PunyEncodesUptoCardSaid : Prop := Claim7.holds Tryd.pinned (.plain (OpenSpec.upto punyEncodesSpec)) punyEncodesUptoCard

/-- THE SECOND FORM's CARD OF 'eponymlaw06.PunyDecodes'. -/
def punyDecodesUptoCard : Claim7 := { stood := { row := punyDecodesUptoRow, standIns := [], harness := (true, "b1439efc763168d50eece82fb76c86e8ca2995a7c6b3343b21356ab2b37152bb"), looks := true }, kinds := [], alts := [], laidByText := true, laidKinds := [.handle, .sentinel, .sentinel, .sentinel, .sentinel, .sentinel, .sentinel, .sentinel, .sentinel, .sentinel, .sentinel, .sentinel, .sentinel, .sentinel, .sentinel, .sentinel, .sentinel, .sentinel, .sentinel], laidTests := true, laidLooks := .later }
def PunyDecodesUptoCardSaid : Prop := Claim7.holds Tryd.pinned (.plain (OpenSpec.upto punyDecodesSpec)) punyDecodesUptoCard

/-- THE SECOND FORM's CARD OF 'eponymlaw06.PunyNumbers'. -/
def punyNumbersUptoCard : Claim7 := { stood := { row := punyNumbersUptoRow, standIns := [], harness := (true, "b1439efc763168d50eece82fb76c86e8ca2995a7c6b3343b21356ab2b37152bb"), looks := true }, kinds := [], alts := [], laidByText := true, laidKinds := [.handle, .sentinel, .sentinel, .sentinel, .sentinel, .sentinel, .sentinel, .sentinel, .sentinel, .sentinel, .sentinel, .sentinel, .sentinel, .sentinel, .sentinel, .sentinel, .sentinel, .sentinel, .sentinel], laidTests := true, laidLooks := .later }
def PunyNumbersUptoCardSaid : Prop := Claim7.holds Tryd.pinned (.plain (OpenSpec.upto punyNumbersSpec)) punyNumbersUptoCard

/-- THE SECOND FORM's CARD OF 'eponymlaw06.PunyBack'. -/
def punyBackUptoCard : Claim7 := { stood := { row := punyBackUptoRow, standIns := [], harness := (true, "b1439efc763168d50eece82fb76c86e8ca2995a7c6b3343b21356ab2b37152bb"), looks := true }, kinds := [], alts := [], laidByText := true, laidKinds := [.handle, .sentinel, .sentinel, .sentinel, .sentinel, .sentinel, .sentinel, .sentinel, .sentinel, .sentinel, .sentinel, .sentinel, .sentinel, .sentinel, .sentinel, .sentinel, .sentinel, .sentinel, .sentinel], laidTests := true, laidLooks := .later }
def PunyBackUptoCardSaid : Prop := Claim7.holds Tryd.pinned (.plain (OpenSpec.upto punyBackSpec)) punyBackUptoCard

/-- THE SECOND FORM's CARD OF 'eponymlaw06.PunyThere'. -/
def punyThereUptoCard : Claim7 := { stood := { row := punyThereUptoRow, standIns := [], harness := (true, "b1439efc763168d50eece82fb76c86e8ca2995a7c6b3343b21356ab2b37152bb"), looks := true }, kinds := [], alts := [], laidByText := true, laidKinds := [.handle, .sentinel, .sentinel, .sentinel, .sentinel, .sentinel, .sentinel, .sentinel, .sentinel, .sentinel, .sentinel, .sentinel, .sentinel, .sentinel, .sentinel, .sentinel, .sentinel, .sentinel, .sentinel], laidTests := true, laidLooks := .later }
def PunyThereUptoCardSaid : Prop := Claim7.holds Tryd.pinned (.plain (OpenSpec.upto punyThereSpec)) punyThereUptoCard
end Rows
end Go.Proofs.YtockmkcoehepiaaDoor

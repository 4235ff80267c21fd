/-
  DERIVED. GIVEN WITH THE SEED: THE CARDS: each row of YteflghhpdikidaaDoorRows.lean that lists a variable, with what it lists TIED to the program's text (the seventh form; the later family's looks); each row that meets fmt, with fmt's text TOLD by the authors' own Lean function (tested against real Go, not proved from fmt's source: count such statements apart). THE CARD IS WHAT COUNTS. Prove the row's statement (the work); the ties are given (YteflghhpdikidaaDoorTie.lean); close each card by the builder's one call (the guide's Derived/Test/ToyasCard.lean, 'card_holds'). Laid BY PROGRAM, IN A SANDBOX (cutbox-door.mjs). By AI agents, Wed Nov 11 2026. No macro, syntax, notation, axiom, sorry.
-/
import Derived.Test.YteflghhpdikidaaDoorRows
import GoSem.ClaimSeven
namespace Go.Proofs.YteflghhpdikidaaDoor
namespace Rows

/-- THE TIED CARD OF 'eponymlaw02.PctUnescapes'. -/
def pctUnescapesCard : Claim7 := { stood := { row := pctUnescapesRow, standIns := [], harness := (true, "9ff01dd359764ab03032521e59f13c655893fe1d27a39a50b73a9b37c37c5159"), looks := true }, kinds := [], alts := [], laidByText := true, laidKinds := [.handle, .sentinel, .sentinel, .sentinel, .sentinel, .sentinel, .sentinel, .sentinel, .sentinel, .sentinel, .sentinel, .sentinel, .sentinel, .sentinel, .sentinel, .sentinel, .sentinel, .sentinel, .sentinel], laidTests := true, laidLooks := .later }
def PctUnescapesCardSaid : Prop := Claim7.holds Tryd.pinned (.plain (OpenSpec.ofChange pctUnescapesSpec)) pctUnescapesCard

/-- THE TIED CARD OF 'eponymlaw02.PctEscapes'. -/
def pctEscapesCard : Claim7 := { stood := { row := pctEscapesRow, standIns := [], harness := (true, "9ff01dd359764ab03032521e59f13c655893fe1d27a39a50b73a9b37c37c5159"), looks := true }, kinds := [], alts := [], laidByText := true, laidKinds := [.handle, .sentinel, .sentinel, .sentinel, .sentinel, .sentinel, .sentinel, .sentinel, .sentinel, .sentinel, .sentinel, .sentinel, .sentinel, .sentinel, .sentinel, .sentinel, .sentinel, .sentinel, .sentinel], laidTests := true, laidLooks := .later }
def PctEscapesCardSaid : Prop := Claim7.holds Tryd.pinned (.plain (OpenSpec.ofChange pctEscapesSpec)) pctEscapesCard

/-- THE TIED CARD OF 'eponymlaw02.PctSplits'. -/
def pctSplitsCard : Claim7 := { stood := { row := pctSplitsRow, standIns := [], harness := (true, "9ff01dd359764ab03032521e59f13c655893fe1d27a39a50b73a9b37c37c5159"), looks := true }, kinds := [], alts := [], laidByText := true, laidKinds := [.data, .handle, .sentinel, .sentinel, .sentinel, .sentinel, .sentinel, .sentinel, .sentinel, .sentinel, .sentinel, .sentinel, .sentinel, .sentinel, .sentinel, .sentinel, .sentinel, .sentinel, .sentinel, .sentinel, .pinned], laidTests := true, laidLooks := .later }
def PctSplitsCardSaid : Prop := Claim7.holds Tryd.pinned (.plain (OpenSpec.ofChange pctSplitsSpec)) pctSplitsCard

/-- THE TIED CARD OF 'eponymlaw02.PctTexts'. -/
def pctTextsCard : Claim7 := { stood := { row := pctTextsRow, standIns := [], harness := (true, "9ff01dd359764ab03032521e59f13c655893fe1d27a39a50b73a9b37c37c5159"), looks := true }, kinds := [], alts := [], laidByText := true, laidKinds := [.handle, .sentinel, .sentinel, .sentinel, .sentinel, .sentinel, .sentinel, .sentinel, .sentinel, .sentinel, .sentinel, .sentinel, .sentinel, .sentinel, .sentinel, .sentinel, .sentinel, .sentinel, .sentinel], laidTests := true, laidLooks := .later }
def PctTextsCardSaid : Prop := Claim7.holds Tryd.pinned (.plain (OpenSpec.ofChange pctTextsSpec)) pctTextsCard

/-- THE TIED CARD OF 'eponymlaw02.PctBack'. -/
def pctBackCard : Claim7 := { stood := { row := pctBackRow, standIns := [], harness := (true, "9ff01dd359764ab03032521e59f13c655893fe1d27a39a50b73a9b37c37c5159"), looks := true }, kinds := [], alts := [], laidByText := true, laidKinds := [.handle, .sentinel, .sentinel, .sentinel, .sentinel, .sentinel, .sentinel, .sentinel, .sentinel, .sentinel, .sentinel, .sentinel, .sentinel, .sentinel, .sentinel, .sentinel, .sentinel, .sentinel, .sentinel], laidTests := true, laidLooks := .later }
def PctBackCardSaid : Prop := Claim7.holds Tryd.pinned (.plain (OpenSpec.ofChange pctBackSpec)) pctBackCard

/-- THE TIED CARD OF 'eponymlaw02.PctParts'. -/
def pctPartsCard : Claim7 := { stood := { row := pctPartsRow, standIns := [], harness := (true, "9ff01dd359764ab03032521e59f13c655893fe1d27a39a50b73a9b37c37c5159"), looks := true }, kinds := [], alts := [], laidByText := true, laidKinds := [.data, .handle, .sentinel, .sentinel, .sentinel, .sentinel, .sentinel, .sentinel, .sentinel, .sentinel, .sentinel, .sentinel, .sentinel, .sentinel, .sentinel, .sentinel, .sentinel, .sentinel, .sentinel, .sentinel, .pinned], laidTests := true, laidLooks := .later }
def PctPartsCardSaid : Prop := Claim7.holds Tryd.pinned (.plain (OpenSpec.ofChange pctPartsSpec)) pctPartsCard

/-- THE SECOND FORM's CARD OF 'eponymlaw02.PctUnescapes'. -/
def pctUnescapesUptoCard : Claim7 := { stood := { row := pctUnescapesUptoRow, standIns := [], harness := (true, "9ff01dd359764ab03032521e59f13c655893fe1d27a39a50b73a9b37c37c5159"), looks := true }, kinds := [], alts := [], laidByText := true, laidKinds := [.handle, .sentinel, .sentinel, .sentinel, .sentinel, .sentinel, .sentinel, .sentinel, .sentinel, .sentinel, .sentinel, .sentinel, .sentinel, .sentinel, .sentinel, .sentinel, .sentinel, .sentinel, .sentinel], laidTests := true, laidLooks := .later }
def PctUnescapesUptoCardSaid : Prop := Claim7.holds Tryd.pinned (.plain (OpenSpec.upto pctUnescapesSpec)) pctUnescapesUptoCard

/-- THE SECOND FORM's CARD OF 'eponymlaw02.PctEscapes'. -/
def pctEscapesUptoCard : Claim7 := { stood := { row := pctEscapesUptoRow, standIns := [], harness := (true, "9ff01dd359764ab03032521e59f13c655893fe1d27a39a50b73a9b37c37c5159"), looks := true }, kinds := [], alts := [], laidByText := true, laidKinds := [.handle, .sentinel, .sentinel, .sentinel, .sentinel, .sentinel, .sentinel, .sentinel, .sentinel, .sentinel, .sentinel, .sentinel, .sentinel, .sentinel, .sentinel, .sentinel, .sentinel, .sentinel, .sentinel], laidTests := true, laidLooks := .later }
def PctEscapesUptoCardSaid : Prop := Claim7.holds Tryd.pinned (.plain (OpenSpec.upto pctEscapesSpec)) pctEscapesUptoCard

/-- THE SECOND FORM's CARD OF 'eponymlaw02.PctSplits'. -/
def pctSplitsUptoCard : Claim7 := { stood := { row := pctSplitsUptoRow, standIns := [], harness := (true, "9ff01dd359764ab03032521e59f13c655893fe1d27a39a50b73a9b37c37c5159"), looks := true }, kinds := [], alts := [], laidByText := true, laidKinds := [.data, .handle, .sentinel, .sentinel, .sentinel, .sentinel, .sentinel, .sentinel, .sentinel, .sentinel, .sentinel, .sentinel, .sentinel, .sentinel, .sentinel, .sentinel, .sentinel, .sentinel, .sentinel, .sentinel, .pinned], laidTests := true, laidLooks := .later }
def PctSplitsUptoCardSaid : Prop := Claim7.holds Tryd.pinned (.plain (OpenSpec.upto pctSplitsSpec)) pctSplitsUptoCard

/-- THE SECOND FORM's CARD OF 'eponymlaw02.PctTexts'. -/
def pctTextsUptoCard : Claim7 := { stood := { row := pctTextsUptoRow, standIns := [], harness := (true, "9ff01dd359764ab03032521e59f13c655893fe1d27a39a50b73a9b37c37c5159"), looks := true }, kinds := [], alts := [], laidByText := true, laidKinds := [.handle, .sentinel, .sentinel, .sentinel, .sentinel, .sentinel, .sentinel, .sentinel, .sentinel, .sentinel, .sentinel, .sentinel, .sentinel, .sentinel, .sentinel, .sentinel, .sentinel, .sentinel, .sentinel], laidTests := true, laidLooks := .later }
def PctTextsUptoCardSaid : Prop := Claim7.holds Tryd.pinned (.plain (OpenSpec.upto pctTextsSpec)) pctTextsUptoCard

/-- THE SECOND FORM's CARD OF 'eponymlaw02.PctBack'. -/
def pctBackUptoCard : Claim7 := { stood := { row := pctBackUptoRow, standIns := [], harness := (true, "9ff01dd359764ab03032521e59f13c655893fe1d27a39a50b73a9b37c37c5159"), looks := true }, kinds := [], alts := [], laidByText := true, laidKinds := [.handle, .sentinel, .sentinel, .sentinel, .sentinel, .sentinel, .sentinel, .sentinel, .sentinel, .sentinel, .sentinel, .sentinel, .sentinel, .sentinel, .sentinel, .sentinel, .sentinel, .sentinel, .sentinel], laidTests := true, laidLooks := .later }
def PctBackUptoCardSaid : Prop := Claim7.holds Tryd.pinned (.plain (OpenSpec.upto pctBackSpec)) pctBackUptoCard

/-- THE SECOND FORM's CARD OF 'eponymlaw02.PctParts'. -/
def pctPartsUptoCard : Claim7 := { stood := { row := pctPartsUptoRow, standIns := [], harness := (true, "9ff01dd359764ab03032521e59f13c655893fe1d27a39a50b73a9b37c37c5159"), looks := true }, kinds := [], alts := [], laidByText := true, laidKinds := [.data, .handle, .sentinel, .sentinel, .sentinel, .sentinel, .sentinel, .sentinel, .sentinel, .sentinel, .sentinel, .sentinel, .sentinel, .sentinel, .sentinel, .sentinel, .sentinel, .sentinel, .sentinel, .sentinel, .pinned], laidTests := true, laidLooks := .later }
def PctPartsUptoCardSaid : Prop := Claim7.holds Tryd.pinned (.plain (OpenSpec.upto pctPartsSpec)) pctPartsUptoCard
end Rows
end Go.Proofs.YteflghhpdikidaaDoor

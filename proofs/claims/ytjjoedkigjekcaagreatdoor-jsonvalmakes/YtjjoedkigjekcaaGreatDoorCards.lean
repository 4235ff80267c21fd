/-
  DERIVED. GIVEN WITH THE SEED: THE CARDS: each row of YtjjoedkigjekcaaGreatDoorRows.lean that lists a variable, with what it lists TIED to the program's text (the seventh form; the later family's looks); each row that meets fmt, with fmt's text TOLD by the authors' own Lean function (tested against real Go, not proved from fmt's source: count such statements apart). THE CARD IS WHAT COUNTS. Prove the row's statement (the work); the ties are given (YtjjoedkigjekcaaGreatDoorTie.lean); close each card by the builder's one call (the guide's Derived/Test/ToyasCard.lean, 'card_holds'). Laid BY PROGRAM, IN A SANDBOX (cutbox-door.mjs). By AI agents, Wed Nov 11 2026. No macro, syntax, notation, axiom, sorry.
-/
import Derived.Test.YtjjoedkigjekcaaGreatDoorRows
import GoSem.ClaimSeven
namespace Go.Proofs.YtjjoedkigjekcaaGreatDoor
namespace Rows

/-- THE TIED CARD OF 'eponymlaw12.JsonvalChecks'. -/
def jsonvalChecksCard : Claim7 := { stood := { row := jsonvalChecksRow, standIns := [], harness := (true, "f5777ee7ec7da6f9a8482ed0f8f43bc8b03d18187f25961896009802c3523766"), looks := true }, kinds := [], alts := [], laidByText := true, laidKinds := [.data, .data, .data, .handle, .sentinel, .sentinel, .sentinel, .sentinel, .sentinel, .sentinel, .sentinel, .sentinel, .sentinel, .sentinel, .sentinel, .sentinel, .sentinel, .sentinel, .sentinel, .sentinel, .sentinel, .sentinel], laidTests := true, laidLooks := .later }
def JsonvalChecksCardSaid : Prop := Claim7.holds Tryz.pinned (.plain (OpenSpec.ofChange jsonvalChecksSpec)) jsonvalChecksCard

/-- THE TIED CARD OF 'eponymlaw12.JsonvalTexts'. -/
def jsonvalTextsCard : Claim7 := { stood := { row := jsonvalTextsRow, standIns := [], harness := (true, "f5777ee7ec7da6f9a8482ed0f8f43bc8b03d18187f25961896009802c3523766"), looks := true }, kinds := [], alts := [], laidByText := true, laidKinds := [.data, .data, .data, .handle, .sentinel, .sentinel, .sentinel, .sentinel, .sentinel, .sentinel, .sentinel], laidTests := true, laidLooks := .later }
def JsonvalTextsCardSaid : Prop := Claim7.holds Tryz.pinned (.plain (OpenSpec.ofChange jsonvalTextsSpec)) jsonvalTextsCard

/-- THE TIED CARD OF 'eponymlaw12.JsonvalEquals'. -/
def jsonvalEqualsCard : Claim7 := { stood := { row := jsonvalEqualsRow, standIns := [], harness := (true, "f5777ee7ec7da6f9a8482ed0f8f43bc8b03d18187f25961896009802c3523766"), looks := true }, kinds := [], alts := [], laidByText := true, laidKinds := [.data, .data, .data, .handle, .sentinel, .sentinel, .sentinel, .sentinel, .sentinel, .sentinel, .sentinel], laidTests := true, laidLooks := .later }
def JsonvalEqualsCardSaid : Prop := Claim7.holds Tryz.pinned (.plain (OpenSpec.ofChange jsonvalEqualsSpec)) jsonvalEqualsCard

/-- THE TIED CARD OF 'eponymlaw12.JsonvalMakes'. -/
def jsonvalMakesCard : Claim7 := { stood := { row := jsonvalMakesRow, standIns := [], harness := (true, "f5777ee7ec7da6f9a8482ed0f8f43bc8b03d18187f25961896009802c3523766"), looks := true }, kinds := [], alts := [], laidByText := true, laidKinds := [.data, .data, .data, .handle, .sentinel, .sentinel, .sentinel, .sentinel, .sentinel, .sentinel, .sentinel], laidTests := true, laidLooks := .later }
def JsonvalMakesCardSaid : Prop := Claim7.holds Tryz.pinned (.plain (OpenSpec.ofChange jsonvalMakesSpec)) jsonvalMakesCard

/-- THE TIED CARD OF 'eponymlaw12.JsonvalOnce'. -/
def jsonvalOnceCard : Claim7 := { stood := { row := jsonvalOnceRow, standIns := [], harness := (true, "f5777ee7ec7da6f9a8482ed0f8f43bc8b03d18187f25961896009802c3523766"), looks := true }, kinds := [], alts := [], laidByText := true, laidKinds := [.data, .data, .data, .handle, .sentinel, .sentinel, .sentinel, .sentinel, .sentinel, .sentinel, .sentinel], laidTests := true, laidLooks := .later }
def JsonvalOnceCardSaid : Prop := Claim7.holds Tryz.pinned (.plain (OpenSpec.ofChange jsonvalOnceSpec)) jsonvalOnceCard

/-- THE SECOND FORM's CARD OF 'eponymlaw12.JsonvalChecks'. -/
def jsonvalChecksUptoCard : Claim7 := { stood := { row := jsonvalChecksUptoRow, standIns := [], harness := (true, "f5777ee7ec7da6f9a8482ed0f8f43bc8b03d18187f25961896009802c3523766"), looks := true }, kinds := [], alts := [], laidByText := true, laidKinds := [.data, .data, .data, .handle, .sentinel, .sentinel, .sentinel, .sentinel, .sentinel, .sentinel, .sentinel, .sentinel, .sentinel, .sentinel, .sentinel, .sentinel, .sentinel, .sentinel, .sentinel, .sentinel, .sentinel, .sentinel], laidTests := true, laidLooks := .later }
def JsonvalChecksUptoCardSaid : Prop := Claim7.holds Tryz.pinned (.plain (OpenSpec.upto jsonvalChecksSpec)) jsonvalChecksUptoCard

/-- THE SECOND FORM's CARD OF 'eponymlaw12.JsonvalTexts'. -/
def jsonvalTextsUptoCard : Claim7 := { stood := { row := jsonvalTextsUptoRow, standIns := [], harness := (true, "f5777ee7ec7da6f9a8482ed0f8f43bc8b03d18187f25961896009802c3523766"), looks := true }, kinds := [], alts := [], laidByText := true, laidKinds := [.data, .data, .data, .handle, .sentinel, .sentinel, .sentinel, .sentinel, .sentinel, .sentinel, .sentinel], laidTests := true, laidLooks := .later }
def JsonvalTextsUptoCardSaid : Prop := Claim7.holds Tryz.pinned (.plain (OpenSpec.upto jsonvalTextsSpec)) jsonvalTextsUptoCard

/-- THE SECOND FORM's CARD OF 'eponymlaw12.JsonvalEquals'. -/
def jsonvalEqualsUptoCard : Claim7 := { stood := { row := jsonvalEqualsUptoRow, standIns := [], harness := (true, "f5777ee7ec7da6f9a8482ed0f8f43bc8b03d18187f25961896009802c3523766"), looks := true }, kinds := [], alts := [], laidByText := true, laidKinds := [.data, .data, .data, .handle, .sentinel, .sentinel, .sentinel, .sentinel, .sentinel, .sentinel, .sentinel], laidTests := true, laidLooks := .later }
def JsonvalEqualsUptoCardSaid : Prop := Claim7.holds Tryz.pinned (.plain (OpenSpec.upto jsonvalEqualsSpec)) jsonvalEqualsUptoCard

/-- THE SECOND FORM's CARD OF 'eponymlaw12.JsonvalMakes'. -/
def jsonvalMakesUptoCard : Claim7 := { stood := { row := jsonvalMakesUptoRow, standIns := [], harness := (true, "f5777ee7ec7da6f9a8482ed0f8f43bc8b03d18187f25961896009802c3523766"), looks := true }, kinds := [], alts := [], laidByText := true, laidKinds := [.data, .data, .data, .handle, .sentinel, .sentinel, .sentinel, .sentinel, .sentinel, .sentinel, .sentinel], laidTests := true, laidLooks := .later }
def JsonvalMakesUptoCardSaid : Prop := Claim7.holds Tryz.pinned (.plain (OpenSpec.upto jsonvalMakesSpec)) jsonvalMakesUptoCard

/-- THE SECOND FORM's CARD OF 'eponymlaw12.JsonvalOnce'. -/
def jsonvalOnceUptoCard : Claim7 := { stood := { row := jsonvalOnceUptoRow, standIns := [], harness := (true, "f5777ee7ec7da6f9a8482ed0f8f43bc8b03d18187f25961896009802c3523766"), looks := true }, kinds := [], alts := [], laidByText := true, laidKinds := [.data, .data, .data, .handle, .sentinel, .sentinel, .sentinel, .sentinel, .sentinel, .sentinel, .sentinel], laidTests := true, laidLooks := .later }
def JsonvalOnceUptoCardSaid : Prop := Claim7.holds Tryz.pinned (.plain (OpenSpec.upto jsonvalOnceSpec)) jsonvalOnceUptoCard
end Rows
end Go.Proofs.YtjjoedkigjekcaaGreatDoor

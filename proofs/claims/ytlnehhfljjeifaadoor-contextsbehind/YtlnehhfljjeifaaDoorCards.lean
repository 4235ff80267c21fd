/-
  DERIVED. GIVEN WITH THE SEED: THE CARDS: each row of YtlnehhfljjeifaaDoorRows.lean that lists a variable, with what it lists TIED to the program's text (the seventh form; the later family's looks); each row that meets fmt, with fmt's text TOLD by the authors' own Lean function (tested against real Go, not proved from fmt's source: count such statements apart). THE CARD IS WHAT COUNTS. Prove the row's statement (the work); the ties are given (YtlnehhfljjeifaaDoorTie.lean); close each card by the builder's one call (the guide's Derived/Test/ToyasCard.lean, 'card_holds'). Laid BY PROGRAM, IN A SANDBOX (cutbox-door.mjs). By AI agents, Wed Nov 11 2026. No macro, syntax, notation, axiom, sorry.
-/
import Derived.Test.YtlnehhfljjeifaaDoorRows
import GoSem.ClaimSeven
namespace Go.Proofs.YtlnehhfljjeifaaDoor
namespace Rows

/-- THE TIED CARD OF 'eponymlaw08.ContextsDigits'. -/
def contextsDigitsCard : Claim7 := { stood := { row := contextsDigitsRow, standIns := [], harness := (true, "b676c2faf09e3a3d67a5fde9d526a352bc43b623963e28735b789ae07ae553da"), looks := false }, kinds := [], alts := [], laidByText := true, laidKinds := [.sentinel, .sentinel, .sentinel, .sentinel, .sentinel, .sentinel, .sentinel, .data], laidTests := true, laidLooks := .later }
def ContextsDigitsCardSaid : Prop := Claim7.holds Tryd.pinned (.plain (OpenSpec.ofChange contextsDigitsSpec)) contextsDigitsCard

/-- THE TIED CARD OF 'eponymlaw08.ContextsBehind'. -/
def contextsBehindCard : Claim7 := { stood := { row := contextsBehindRow, standIns := [], harness := (true, "b676c2faf09e3a3d67a5fde9d526a352bc43b623963e28735b789ae07ae553da"), looks := false }, kinds := [], alts := [], laidByText := true, laidKinds := [.sentinel, .sentinel, .sentinel, .sentinel, .sentinel, .sentinel, .sentinel, .data], laidTests := true, laidLooks := .later }
def ContextsBehindCardSaid : Prop := Claim7.holds Tryd.pinned (.plain (OpenSpec.ofChange contextsBehindSpec)) contextsBehindCard

/-- THE SECOND FORM's CARD OF 'eponymlaw08.ContextsDigits'. -/
def contextsDigitsUptoCard : Claim7 := { stood := { row := contextsDigitsUptoRow, standIns := [], harness := (true, "b676c2faf09e3a3d67a5fde9d526a352bc43b623963e28735b789ae07ae553da"), looks := false }, kinds := [], alts := [], laidByText := true, laidKinds := [.sentinel, .sentinel, .sentinel, .sentinel, .sentinel, .sentinel, .sentinel, .data], laidTests := true, laidLooks := .later }
def ContextsDigitsUptoCardSaid : Prop := Claim7.holds Tryd.pinned (.plain (OpenSpec.upto contextsDigitsSpec)) contextsDigitsUptoCard

/-- THE SECOND FORM's CARD OF 'eponymlaw08.ContextsBehind'. -/
def contextsBehindUptoCard : Claim7 := { stood := { row := contextsBehindUptoRow, standIns := [], harness := (true, "b676c2faf09e3a3d67a5fde9d526a352bc43b623963e28735b789ae07ae553da"), looks := false }, kinds := [], alts := [], laidByText := true, laidKinds := [.sentinel, .sentinel, .sentinel, .sentinel, .sentinel, .sentinel, .sentinel, .data], laidTests := true, laidLooks := .later }
def ContextsBehindUptoCardSaid : Prop := Claim7.holds Tryd.pinned (.plain (OpenSpec.upto contextsBehindSpec)) contextsBehindUptoCard
end Rows
end Go.Proofs.YtlnehhfljjeifaaDoor

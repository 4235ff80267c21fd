/-
  DERIVED. GIVEN WITH THE SEED: THE CARDS: each row of YthheplgpjhhbmaaDoorRows.lean that lists a variable, with what it lists TIED to the program's text (the seventh form; the later family's looks); each row that meets fmt, with fmt's text TOLD by the authors' own Lean function (tested against real Go, not proved from fmt's source: count such statements apart). THE CARD IS WHAT COUNTS. Prove the row's statement (the work); the ties are given (YthheplgpjhhbmaaDoorTie.lean); close each card by the builder's one call (the guide's Derived/Test/ToyasCard.lean, 'card_holds'). Laid BY PROGRAM, IN A SANDBOX (cutbox-door.mjs). By AI agents, Wed Nov 11 2026. No macro, syntax, notation, axiom, sorry.
-/
import Derived.Test.YthheplgpjhhbmaaDoorRows
import GoSem.ClaimSeven
namespace Go.Proofs.YthheplgpjhhbmaaDoor
namespace Rows

/-- THE TIED CARD OF 'eponymlaw03.RangesChecks'. -/
def rangesChecksCard : Claim7 := { stood := { row := rangesChecksRow, standIns := [], harness := (true, "cd45f390da4e6ced04aee19e63d687ea55e7d51c603b7fddb8478d0ff37f92e4"), looks := true }, kinds := [], alts := [], laidByText := true, laidKinds := [.handle, .sentinel, .sentinel, .sentinel, .sentinel, .sentinel, .sentinel, .sentinel, .sentinel, .sentinel, .sentinel, .sentinel, .sentinel, .sentinel, .sentinel, .sentinel, .sentinel, .sentinel, .sentinel], laidTests := true, laidLooks := .later }
def RangesChecksCardSaid : Prop := Claim7.holds Tryd.pinned (.plain (OpenSpec.ofChange rangesChecksSpec)) rangesChecksCard

/-- THE TIED CARD OF 'eponymlaw03.RangesFull'. -/
def rangesFullCard : Claim7 := { stood := { row := rangesFullRow, standIns := [], harness := (true, "cd45f390da4e6ced04aee19e63d687ea55e7d51c603b7fddb8478d0ff37f92e4"), looks := true }, kinds := [], alts := [], laidByText := true, laidKinds := [.handle, .sentinel, .sentinel, .sentinel, .sentinel, .sentinel, .sentinel, .sentinel, .sentinel, .sentinel, .sentinel, .sentinel, .sentinel, .sentinel, .sentinel, .sentinel, .sentinel, .sentinel, .sentinel], laidTests := true, laidLooks := .later }
def RangesFullCardSaid : Prop := Claim7.holds Tryd.pinned (.plain (OpenSpec.ofChange rangesFullSpec)) rangesFullCard

/-- THE TIED CARD OF 'eponymlaw03.RangesFinds'. -/
def rangesFindsCard : Claim7 := { stood := { row := rangesFindsRow, standIns := [], harness := (true, "cd45f390da4e6ced04aee19e63d687ea55e7d51c603b7fddb8478d0ff37f92e4"), looks := true }, kinds := [], alts := [], laidByText := true, laidKinds := [.handle, .sentinel, .sentinel, .sentinel, .sentinel, .sentinel, .sentinel, .sentinel, .sentinel, .sentinel, .sentinel, .sentinel, .sentinel, .sentinel, .sentinel, .sentinel, .sentinel, .sentinel, .sentinel], laidTests := true, laidLooks := .later }
def RangesFindsCardSaid : Prop := Claim7.holds Tryd.pinned (.plain (OpenSpec.ofChange rangesFindsSpec)) rangesFindsCard

/-- THE TIED CARD OF 'eponymlaw03.RangesJoins'. -/
def rangesJoinsCard : Claim7 := { stood := { row := rangesJoinsRow, standIns := [], harness := (true, "cd45f390da4e6ced04aee19e63d687ea55e7d51c603b7fddb8478d0ff37f92e4"), looks := true }, kinds := [], alts := [], laidByText := true, laidKinds := [.handle, .sentinel, .sentinel, .sentinel, .sentinel, .sentinel, .sentinel, .sentinel, .sentinel, .sentinel, .sentinel, .sentinel, .sentinel, .sentinel, .sentinel, .sentinel, .sentinel, .sentinel, .sentinel], laidTests := true, laidLooks := .later }
def RangesJoinsCardSaid : Prop := Claim7.holds Tryd.pinned (.plain (OpenSpec.ofChange rangesJoinsSpec)) rangesJoinsCard

/-- THE TIED CARD OF 'eponymlaw03.RangesGoes'. -/
def rangesGoesCard : Claim7 := { stood := { row := rangesGoesRow, standIns := [], harness := (true, "cd45f390da4e6ced04aee19e63d687ea55e7d51c603b7fddb8478d0ff37f92e4"), looks := true }, kinds := [], alts := [], laidByText := true, laidKinds := [.handle, .sentinel, .sentinel, .sentinel, .sentinel, .sentinel, .sentinel, .sentinel, .sentinel, .sentinel, .sentinel, .sentinel, .sentinel, .sentinel, .sentinel, .sentinel, .sentinel, .sentinel, .sentinel], laidTests := true, laidLooks := .later }
def RangesGoesCardSaid : Prop := Claim7.holds Tryd.pinned (.plain (OpenSpec.ofChange rangesGoesSpec)) rangesGoesCard

/-- THE SECOND FORM's CARD OF 'eponymlaw03.RangesChecks'. -/
def rangesChecksUptoCard : Claim7 := { stood := { row := rangesChecksUptoRow, standIns := [], harness := (true, "cd45f390da4e6ced04aee19e63d687ea55e7d51c603b7fddb8478d0ff37f92e4"), looks := true }, kinds := [], alts := [], laidByText := true, laidKinds := [.handle, .sentinel, .sentinel, .sentinel, .sentinel, .sentinel, .sentinel, .sentinel, .sentinel, .sentinel, .sentinel, .sentinel, .sentinel, .sentinel, .sentinel, .sentinel, .sentinel, .sentinel, .sentinel], laidTests := true, laidLooks := .later }
def RangesChecksUptoCardSaid : Prop := Claim7.holds Tryd.pinned (.plain (OpenSpec.upto rangesChecksSpec)) rangesChecksUptoCard

/-- THE SECOND FORM's CARD OF 'eponymlaw03.RangesFull'. -/
def rangesFullUptoCard : Claim7 := { stood := { row := rangesFullUptoRow, standIns := [], harness := (true, "cd45f390da4e6ced04aee19e63d687ea55e7d51c603b7fddb8478d0ff37f92e4"), looks := true }, kinds := [], alts := [], laidByText := true, laidKinds := [.handle, .sentinel, .sentinel, .sentinel, .sentinel, .sentinel, .sentinel, .sentinel, .sentinel, .sentinel, .sentinel, .sentinel, .sentinel, .sentinel, .sentinel, .sentinel, .sentinel, .sentinel, .sentinel], laidTests := true, laidLooks := .later }
def RangesFullUptoCardSaid : Prop := Claim7.holds Tryd.pinned (.plain (OpenSpec.upto rangesFullSpec)) rangesFullUptoCard

/-- THE SECOND FORM's CARD OF 'eponymlaw03.RangesFinds'. -/
def rangesFindsUptoCard : Claim7 := { stood := { row := rangesFindsUptoRow, standIns := [], harness := (true, "cd45f390da4e6ced04aee19e63d687ea55e7d51c603b7fddb8478d0ff37f92e4"), looks := true }, kinds := [], alts := [], laidByText := true, laidKinds := [.handle, .sentinel, .sentinel, .sentinel, .sentinel, .sentinel, .sentinel, .sentinel, .sentinel, .sentinel, .sentinel, .sentinel, .sentinel, .sentinel, .sentinel, .sentinel, .sentinel, .sentinel, .sentinel], laidTests := true, laidLooks := .later }
def RangesFindsUptoCardSaid : Prop := Claim7.holds Tryd.pinned (.plain (OpenSpec.upto rangesFindsSpec)) rangesFindsUptoCard

/-- THE SECOND FORM's CARD OF 'eponymlaw03.RangesJoins'. -/
def rangesJoinsUptoCard : Claim7 := { stood := { row := rangesJoinsUptoRow, standIns := [], harness := (true, "cd45f390da4e6ced04aee19e63d687ea55e7d51c603b7fddb8478d0ff37f92e4"), looks := true }, kinds := [], alts := [], laidByText := true, laidKinds := [.handle, .sentinel, .sentinel, .sentinel, .sentinel, .sentinel, .sentinel, .sentinel, .sentinel, .sentinel, .sentinel, .sentinel, .sentinel, .sentinel, .sentinel, .sentinel, .sentinel, .sentinel, .sentinel], laidTests := true, laidLooks := .later }
def RangesJoinsUptoCardSaid : Prop := Claim7.holds Tryd.pinned (.plain (OpenSpec.upto rangesJoinsSpec)) rangesJoinsUptoCard

/-- THE SECOND FORM's CARD OF 'eponymlaw03.RangesGoes'. -/
def rangesGoesUptoCard : Claim7 := { stood := { row := rangesGoesUptoRow, standIns := [], harness := (true, "cd45f390da4e6ced04aee19e63d687ea55e7d51c603b7fddb8478d0ff37f92e4"), looks := true }, kinds := [], alts := [], laidByText := true, laidKinds := [.handle, .sentinel, .sentinel, .sentinel, .sentinel, .sentinel, .sentinel, .sentinel, .sentinel, .sentinel, .sentinel, .sentinel, .sentinel, .sentinel, .sentinel, .sentinel, .sentinel, .sentinel, .sentinel], laidTests := true, laidLooks := .later }
def RangesGoesUptoCardSaid : Prop := Claim7.holds Tryd.pinned (.plain (OpenSpec.upto rangesGoesSpec)) rangesGoesUptoCard
end Rows
end Go.Proofs.YthheplgpjhhbmaaDoor

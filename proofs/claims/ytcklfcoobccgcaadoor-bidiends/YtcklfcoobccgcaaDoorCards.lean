/-
  DERIVED. GIVEN WITH THE SEED: THE CARDS: each row of YtcklfcoobccgcaaDoorRows.lean that lists a variable, with what it lists TIED to the program's text (the seventh form; the later family's looks); each row that meets fmt, with fmt's text TOLD by the authors' own Lean function (tested against real Go, not proved from fmt's source: count such statements apart). THE CARD IS WHAT COUNTS. Prove the row's statement (the work); the ties are given (YtcklfcoobccgcaaDoorTie.lean); close each card by the builder's one call (the guide's Derived/Test/ToyasCard.lean, 'card_holds'). Laid BY PROGRAM, IN A SANDBOX (cutbox-door.mjs). By AI agents, Wed Nov 11 2026. No macro, syntax, notation, axiom, sorry.
-/
import Derived.Test.YtcklfcoobccgcaaDoorRows
import GoSem.ClaimSeven
namespace Go.Proofs.YtcklfcoobccgcaaDoor
namespace Rows

/-- THE TIED CARD OF 'eponymlaw09.BidiBreaks'. -/
def bidiBreaksCard : Claim7 := { stood := { row := bidiBreaksRow, standIns := [], harness := (true, "8f0f61238b442ce23be6b5d06d81cacfa19921958f6b8f5dae4ad978bf9ba39b"), looks := true }, kinds := [], alts := [], laidByText := true, laidKinds := [.handle, .sentinel, .sentinel, .sentinel, .sentinel, .sentinel, .sentinel, .sentinel, .sentinel, .sentinel, .sentinel, .sentinel, .sentinel, .sentinel, .sentinel, .sentinel, .sentinel, .sentinel, .sentinel], laidTests := true, laidLooks := .later }
def BidiBreaksCardSaid : Prop := Claim7.holds Tryd.pinned (.plain (OpenSpec.ofChange bidiBreaksSpec)) bidiBreaksCard

/-- THE TIED CARD OF 'eponymlaw09.BidiNames'. -/
def bidiNamesCard : Claim7 := { stood := { row := bidiNamesRow, standIns := [], harness := (true, "8f0f61238b442ce23be6b5d06d81cacfa19921958f6b8f5dae4ad978bf9ba39b"), looks := true }, kinds := [], alts := [], laidByText := true, laidKinds := [.handle, .sentinel, .sentinel, .sentinel, .sentinel, .sentinel, .sentinel, .sentinel, .sentinel, .sentinel, .sentinel, .sentinel, .sentinel, .sentinel, .sentinel, .sentinel, .sentinel, .sentinel, .sentinel], laidTests := true, laidLooks := .later }
def BidiNamesCardSaid : Prop := Claim7.holds Tryd.pinned (.plain (OpenSpec.ofChange bidiNamesSpec)) bidiNamesCard

/-- THE TIED CARD OF 'eponymlaw09.BidiEnds'. -/
def bidiEndsCard : Claim7 := { stood := { row := bidiEndsRow, standIns := [], harness := (true, "8f0f61238b442ce23be6b5d06d81cacfa19921958f6b8f5dae4ad978bf9ba39b"), looks := true }, kinds := [], alts := [], laidByText := true, laidKinds := [.sentinel, .sentinel, .sentinel, .sentinel, .sentinel], laidTests := true, laidLooks := .later }
def BidiEndsCardSaid : Prop := Claim7.holds Tryd.pinned (.plain (OpenSpec.ofChange bidiEndsSpec)) bidiEndsCard

/-- THE SECOND FORM's CARD OF 'eponymlaw09.BidiBreaks'. -/
def bidiBreaksUptoCard : Claim7 := { stood := { row := bidiBreaksUptoRow, standIns := [], harness := (true, "8f0f61238b442ce23be6b5d06d81cacfa19921958f6b8f5dae4ad978bf9ba39b"), looks := true }, kinds := [], alts := [], laidByText := true, laidKinds := [.handle, .sentinel, .sentinel, .sentinel, .sentinel, .sentinel, .sentinel, .sentinel, .sentinel, .sentinel, .sentinel, .sentinel, .sentinel, .sentinel, .sentinel, .sentinel, .sentinel, .sentinel, .sentinel], laidTests := true, laidLooks := .later }
def BidiBreaksUptoCardSaid : Prop := Claim7.holds Tryd.pinned (.plain (OpenSpec.upto bidiBreaksSpec)) bidiBreaksUptoCard

/-- THE SECOND FORM's CARD OF 'eponymlaw09.BidiNames'. -/
def bidiNamesUptoCard : Claim7 := { stood := { row := bidiNamesUptoRow, standIns := [], harness := (true, "8f0f61238b442ce23be6b5d06d81cacfa19921958f6b8f5dae4ad978bf9ba39b"), looks := true }, kinds := [], alts := [], laidByText := true, laidKinds := [.handle, .sentinel, .sentinel, .sentinel, .sentinel, .sentinel, .sentinel, .sentinel, .sentinel, .sentinel, .sentinel, .sentinel, .sentinel, .sentinel, .sentinel, .sentinel, .sentinel, .sentinel, .sentinel], laidTests := true, laidLooks := .later }
def BidiNamesUptoCardSaid : Prop := Claim7.holds Tryd.pinned (.plain (OpenSpec.upto bidiNamesSpec)) bidiNamesUptoCard

/-- THE SECOND FORM's CARD OF 'eponymlaw09.BidiEnds'. -/
def bidiEndsUptoCard : Claim7 := { stood := { row := bidiEndsUptoRow, standIns := [], harness := (true, "8f0f61238b442ce23be6b5d06d81cacfa19921958f6b8f5dae4ad978bf9ba39b"), looks := true }, kinds := [], alts := [], laidByText := true, laidKinds := [.sentinel, .sentinel, .sentinel, .sentinel, .sentinel], laidTests := true, laidLooks := .later }
def BidiEndsUptoCardSaid : Prop := Claim7.holds Tryd.pinned (.plain (OpenSpec.upto bidiEndsSpec)) bidiEndsUptoCard
end Rows
end Go.Proofs.YtcklfcoobccgcaaDoor

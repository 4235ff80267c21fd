/-
  NARROWER THAN 'FOR EVERY INPUT', by the rows' own cells (each row's printed sentence says how): ContextsDigits: laid · ContextsBehind: laid.
  DERIVED. THE GIVEN ROWS OF THIS SEAT. 2 by the template 'for every input the law returns true; each argument reads behind the call as it read before'; 0 by the template 'total and deterministic' (their statements: YtlnehhfljjeifaaDoorTotals.lean).
  GIVEN WITH THE SEED: the statements are not yours to turn. If you find one false, say at which input.
  Laid BY PROGRAM, IN A SANDBOX (cutbox-rows.mjs): the forced cells as the released guide's own fill.sh prints them over the translation 4622147fc1ae8544… (all of the seat's roots in one cut). By AI agents, Wed Nov 11 2026. No macro, syntax, notation, axiom, sorry.
-/
import Derived.Test.YtlnehhfljjeifaaDoorChecked
import GoSem.Claim
import GoSem.ClaimJoined
import GoSem.ClaimMapViews
import Derived.JoinedTies
import Derived.KernelRfl
namespace Go.Proofs.YtlnehhfljjeifaaDoor
/- THE CELL 'sum', in the pinned program and in every row, IS THE sha256 OF THE DUMP (.gsa) THAT YtlnehhfljjeifaaDoorProg.lean LOADS. Nothing in Lean hashes anything: it is a label: what it is worth is what the hold of that sum in a sandbox is worth. -/
noncomputable def Tryd.pinned : Pinned := { name := "ytlnehhfljjeifaadoor", sum := "4622147fc1ae8544d9f81a7a0bbd18ea92539bb5335d0f695664d7c79a13db26", checked := Tryd.checked }
namespace Rows
def none {H : Type} : Left H := { results := [], args := [] }

/- WHAT THE LISTED PACKAGE-LEVEL VARIABLES READ AS WHEN THE CALL BEGINS. Each datum BY PROGRAM (the guide's laid-datum.mjs) off the statement by which the dump's own 'gosem.cut.vars' lays the variable. In a bare row this is a premise. The card (YtlnehhfljjeifaaDoorCards.lean) ties it to the program's text. -/
def laid_eponym_api_ErrRange {H : Type} : DataW H := .iface "*errors.errorString" (.ptr (.agg [.lit (.string [97, 32, 110, 117, 109, 98, 101, 114, 32, 105, 115, 32, 111, 117, 116, 115, 105, 100, 101, 32, 105, 116, 115, 32, 98, 111, 117, 110, 100, 115])]))
def laid_eponym_api_ErrForm {H : Type} : DataW H := .iface "*errors.errorString" (.ptr (.agg [.lit (.string [105, 116, 32, 105, 115, 110, 39, 116, 32, 111, 102, 32, 116, 104, 101, 32, 102, 111, 114, 109])]))
def laid_eponym_api_ErrOrder {H : Type} : DataW H := .iface "*errors.errorString" (.ptr (.agg [.lit (.string [105, 116, 32, 105, 115, 110, 39, 116, 32, 105, 110, 32, 111, 114, 100, 101, 114])]))
def laid_eponym_api_ErrThere {H : Type} : DataW H := .iface "*errors.errorString" (.ptr (.agg [.lit (.string [105, 116, 32, 105, 115, 32, 116, 104, 101, 114, 101, 32, 97, 108, 114, 101, 97, 100, 121])]))
def laid_eponym_api_ErrDeep {H : Type} : DataW H := .iface "*errors.errorString" (.ptr (.agg [.lit (.string [105, 116, 32, 105, 115, 32, 116, 111, 111, 32, 100, 101, 101, 112])]))
def laid_eponym_api_ErrKind {H : Type} : DataW H := .iface "*errors.errorString" (.ptr (.agg [.lit (.string [116, 104, 101, 114, 101, 32, 105, 115, 32, 110, 111, 32, 115, 117, 99, 104, 32, 107, 105, 110, 100])]))
def laid_eponym_api_ErrFull {H : Type} : DataW H := .iface "*errors.errorString" (.ptr (.agg [.lit (.string [116, 104, 101, 114, 101, 32, 97, 114, 101, 32, 116, 111, 111, 32, 109, 97, 110, 121])]))
def laid_eponym_decomp_hangul {H : Type} : DataW H := .agg [.agg [.lit (.int .i32 44032), .lit (.int .i32 55203)], .agg [.lit (.int .i32 4352), .lit (.int .i32 4370)], .agg [.lit (.int .i32 4449), .lit (.int .i32 4469)], .agg [.lit (.int .i32 4520), .lit (.int .i32 4546)]]

/-- 'eponymlaw08.ContextsDigits': WHATEVER THE INPUT: true; the input reads as it did. -/
def contextsDigitsSpec : ChangeSpec := { name := "contextsDigits", fn := fun _ => fun
  | [d1, d2] => { results := [.lit (.bool true)], args := [d1, d2] }
  | _ => none }
def contextsDigitsRow : OpenClaim := { program := "ytlnehhfljjeifaadoor", sum := "4622147fc1ae8544d9f81a7a0bbd18ea92539bb5335d0f695664d7c79a13db26", func := "eponym/eponymlaw08.ContextsDigits", spec := "contextsDigits", unfollowed := true, recurses := true, named := ["eponym/api.ErrFull", "eponym/api.ErrDeep", "eponym/api.ErrRange", "eponym/api.ErrOrder", "eponym/api.ErrForm", "eponym/decomp.hangul", "eponym/api.ErrKind", "eponym/api.ErrThere"], plainKeys := false, apart := false, laid := [("eponym/api.ErrRange", laid_eponym_api_ErrRange), ("eponym/api.ErrForm", laid_eponym_api_ErrForm), ("eponym/api.ErrOrder", laid_eponym_api_ErrOrder), ("eponym/api.ErrThere", laid_eponym_api_ErrThere), ("eponym/api.ErrDeep", laid_eponym_api_ErrDeep), ("eponym/api.ErrKind", laid_eponym_api_ErrKind), ("eponym/api.ErrFull", laid_eponym_api_ErrFull), ("eponym/decomp.hangul", laid_eponym_decomp_hangul)] }
def ContextsDigitsSaid : Prop := contextsDigitsRow.holds Tryd.pinned (OpenSpec.ofChange contextsDigitsSpec)

/-- ITS FALSE NEIGHBOUR: 'it returns false'. Refute it at one input. -/
def contextsDigitsWrong : ChangeSpec := { name := "contextsDigits", fn := fun _ => fun
  | [d1, d2] => { results := [.lit (.bool false)], args := [d1, d2] }
  | _ => none }
def ContextsDigitsWrongFalsely : Prop := contextsDigitsRow.holds Tryd.pinned (OpenSpec.ofChange contextsDigitsWrong)

/-- 'eponymlaw08.ContextsBehind': WHATEVER THE INPUT: true; the input reads as it did. -/
def contextsBehindSpec : ChangeSpec := { name := "contextsBehind", fn := fun _ => fun
  | [d1, d2, d3] => { results := [.lit (.bool true)], args := [d1, d2, d3] }
  | _ => none }
def contextsBehindRow : OpenClaim := { program := "ytlnehhfljjeifaadoor", sum := "4622147fc1ae8544d9f81a7a0bbd18ea92539bb5335d0f695664d7c79a13db26", func := "eponym/eponymlaw08.ContextsBehind", spec := "contextsBehind", unfollowed := true, recurses := true, named := ["eponym/api.ErrFull", "eponym/api.ErrDeep", "eponym/api.ErrRange", "eponym/api.ErrOrder", "eponym/api.ErrForm", "eponym/decomp.hangul", "eponym/api.ErrKind", "eponym/api.ErrThere"], plainKeys := false, apart := false, laid := [("eponym/api.ErrRange", laid_eponym_api_ErrRange), ("eponym/api.ErrForm", laid_eponym_api_ErrForm), ("eponym/api.ErrOrder", laid_eponym_api_ErrOrder), ("eponym/api.ErrThere", laid_eponym_api_ErrThere), ("eponym/api.ErrDeep", laid_eponym_api_ErrDeep), ("eponym/api.ErrKind", laid_eponym_api_ErrKind), ("eponym/api.ErrFull", laid_eponym_api_ErrFull), ("eponym/decomp.hangul", laid_eponym_decomp_hangul)] }
def ContextsBehindSaid : Prop := contextsBehindRow.holds Tryd.pinned (OpenSpec.ofChange contextsBehindSpec)

/-- ITS FALSE NEIGHBOUR: 'it returns false'. Refute it at one input. -/
def contextsBehindWrong : ChangeSpec := { name := "contextsBehind", fn := fun _ => fun
  | [d1, d2, d3] => { results := [.lit (.bool false)], args := [d1, d2, d3] }
  | _ => none }
def ContextsBehindWrongFalsely : Prop := contextsBehindRow.holds Tryd.pinned (OpenSpec.ofChange contextsBehindWrong)

/- THE SECOND FORM. 'bulk': how many values and letters a reading holds, each counted each time it is reached (what is shared counts as often as it is met; a slice's spare places count too). A statement '..UptoSaid' is the law's where the arguments, and the package variables that the reading takes, are together of bulk at most 1048576: NARROWER than '..Said'. Prove '..Said' where nothing that the law and all that it calls make is longer than what came in: it says more and counts as full. Else prove '..UptoSaid'. A law counts once. -/
mutual
def uptoBulk {H : Type} : DataW H → Nat
  | .lit (.string bytes) => bytes.length + 1
  | .lit _ => 1
  | .nil => 1
  | .ptr d => uptoBulk d + 1
  | .slice elems spare => uptoBulkAll elems + uptoBulkAll spare + 1
  | .agg parts => uptoBulkAll parts + 1
  | .iface _ d => uptoBulk d + 1
  | .map entries => uptoBulkEntries entries + 1
  | .held _ => 1
def uptoBulkAll {H : Type} : List (DataW H) → Nat
  | [] => 0
  | d :: r => uptoBulk d + uptoBulkAll r
def uptoBulkEntries {H : Type} : List (Lit × DataW H) → Nat
  | [] => 0
  | x :: r => uptoBulkEntry x + uptoBulkEntries r
def uptoBulkEntry {H : Type} : Lit × DataW H → Nat
  | (.string bytes, d) => bytes.length + uptoBulk d + 1
  | (_, d) => uptoBulk d + 1
 end
def uptoSmall : (H : Type) → List (DataW H) → Bool := fun _ ds => decide (uptoBulkAll ds ≤ 1048576)
def OpenSpec.upto (s : _root_.Go.ChangeSpec) : _root_.Go.OpenSpec := { _root_.Go.OpenSpec.ofChange s with cond := some uptoSmall }

/-- 'eponymlaw08.ContextsDigits', WHERE WHAT IT READS IS OF BULK AT MOST 1048576: true; the input reads as it did. -/
def contextsDigitsUptoRow : OpenClaim := { program := "ytlnehhfljjeifaadoor", sum := "4622147fc1ae8544d9f81a7a0bbd18ea92539bb5335d0f695664d7c79a13db26", func := "eponym/eponymlaw08.ContextsDigits", spec := "contextsDigits", unfollowed := true, recurses := true, named := ["eponym/api.ErrFull", "eponym/api.ErrDeep", "eponym/api.ErrRange", "eponym/api.ErrOrder", "eponym/api.ErrForm", "eponym/decomp.hangul", "eponym/api.ErrKind", "eponym/api.ErrThere"], plainKeys := false, apart := false, laid := [("eponym/api.ErrRange", laid_eponym_api_ErrRange), ("eponym/api.ErrForm", laid_eponym_api_ErrForm), ("eponym/api.ErrOrder", laid_eponym_api_ErrOrder), ("eponym/api.ErrThere", laid_eponym_api_ErrThere), ("eponym/api.ErrDeep", laid_eponym_api_ErrDeep), ("eponym/api.ErrKind", laid_eponym_api_ErrKind), ("eponym/api.ErrFull", laid_eponym_api_ErrFull), ("eponym/decomp.hangul", laid_eponym_decomp_hangul)], narrowed := true }
def ContextsDigitsUptoSaid : Prop := contextsDigitsUptoRow.holds Tryd.pinned (OpenSpec.upto contextsDigitsSpec)

/-- 'eponymlaw08.ContextsBehind', WHERE WHAT IT READS IS OF BULK AT MOST 1048576: true; the input reads as it did. -/
def contextsBehindUptoRow : OpenClaim := { program := "ytlnehhfljjeifaadoor", sum := "4622147fc1ae8544d9f81a7a0bbd18ea92539bb5335d0f695664d7c79a13db26", func := "eponym/eponymlaw08.ContextsBehind", spec := "contextsBehind", unfollowed := true, recurses := true, named := ["eponym/api.ErrFull", "eponym/api.ErrDeep", "eponym/api.ErrRange", "eponym/api.ErrOrder", "eponym/api.ErrForm", "eponym/decomp.hangul", "eponym/api.ErrKind", "eponym/api.ErrThere"], plainKeys := false, apart := false, laid := [("eponym/api.ErrRange", laid_eponym_api_ErrRange), ("eponym/api.ErrForm", laid_eponym_api_ErrForm), ("eponym/api.ErrOrder", laid_eponym_api_ErrOrder), ("eponym/api.ErrThere", laid_eponym_api_ErrThere), ("eponym/api.ErrDeep", laid_eponym_api_ErrDeep), ("eponym/api.ErrKind", laid_eponym_api_ErrKind), ("eponym/api.ErrFull", laid_eponym_api_ErrFull), ("eponym/decomp.hangul", laid_eponym_decomp_hangul)], narrowed := true }
def ContextsBehindUptoSaid : Prop := contextsBehindUptoRow.holds Tryd.pinned (OpenSpec.upto contextsBehindSpec)

end Rows
end Go.Proofs.YtlnehhfljjeifaaDoor

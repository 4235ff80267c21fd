/-
  What is proved here: what the laws ask of jsonval's functions, in words.
-/
import Derived.Test.YtjjoedkigjekcaaGreatDoorMJ
namespace Go.Proofs.YtjjoedkigjekcaaGreatDoor
open Go.RowKit

/-- what the answer v says of a place and a number (0: nothing is wrong) -/
def Says (w : World) (v : Value) (B : Nat) (p : Nat → Addr) (x : Nat × Nat) : Prop :=
  (x = (0, 0) ∧ v = .nilIface) ∨ (x.2 ≠ 0 ∧ Flt w v B x.1 (p x.2))
/-- a slice of values -/
def SL (W : World) (v : Value) (l : List J) : Prop := ∃ a ca, v = .slice a l.length ca ∧ ∀ j t, l[j]? = some t → ∃ ba oa ds, a = some ⟨ba, oa, none⟩ ∧ CellsAt W ba (oa + j * 4) ds 4 ∧ VJ W t ds
/-- a slice of members -/
def SM (W : World) (v : Value) (m : List (List UInt8 × J)) : Prop := ∃ b cb, v = .slice b m.length cb ∧ ∀ j x, m[j]? = some x → ∃ bb ob ds, b = some ⟨bb, ob, none⟩ ∧ CellsAt W bb (ob + j * 5) (.string (strL x.1) :: ds) 5 ∧ VJ W x.2 ds
/-- the first member of a name -/
def getM (m : List (List UInt8 × J)) (n : List UInt8) : Option J := (m.find? fun x => x.1 == n).map fun x => x.2
end Go.Proofs.YtjjoedkigjekcaaGreatDoor

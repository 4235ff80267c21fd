/-
  What is proved here: properties as a value and in a block of their own; what classes' has, value, ascii and the like answer; utf.Right; the reference's Right, Has.
-/
import Derived.Test.YtcklfcoobccgcaaDoorK0
namespace Go.Proofs.YtcklfcoobccgcaaDoor
open Go.RowKit

/-- the value that is properties -/
def PV (a : Nat → Option Addr) (c : Nat → Nat) (t : Nat → List Rg) : Value := .agg #[.slice (a 0) (t 0).length (c 0), .slice (a 1) (t 1).length (c 1), .slice (a 2) (t 2).length (c 2), .slice (a 3) (t 3).length (c 3), .slice (a 4) (t 4).length (c 4), .slice (a 5) (t 5).length (c 5), .slice (a 6) (t 6).length (c 6), .slice (a 7) (t 7).length (c 7), .slice (a 8) (t 8).length (c 8), .slice (a 9) (t 9).length (c 9), .slice (a 10) (t 10).length (c 10)]
/-- the eleven tables lie in memory -/
def PT (w : World) (a : Nat → Option Addr) (c : Nat → Nat) (t : Nat → List Rg) : Prop := ∀ i, i < 11 → Tab w (.slice (a i) (t i).length (c i)) (t i)
theorem PT.below {w w' : World} {a : Nat → Option Addr} {c : Nat → Nat} {t : Nat → List Rg} (h : PT w a c t) (hb : Below w.heap.size w w') : PT w' a c t := fun i hi => (h i hi).below hb
/-- a block that holds properties -/
def PB (w : World) (b : Nat) (a : Nat → Option Addr) (c : Nat → Nat) (t : Nat → List Rg) : Prop := ∀ i, i < 11 → w.cell? ⟨b, i, none⟩ = some (.slice (a i) (t i).length (c i))
theorem PB.lt {w : World} {b : Nat} {a : Nat → Option Addr} {c : Nat → Nat} {t : Nat → List Rg} (h : PB w b a c t) : b < w.heap.size := lt_of_cell (h 0 (by omega))
theorem PB.below {w w' : World} {b : Nat} {a : Nat → Option Addr} {c : Nat → Nat} {t : Nat → List Rg} (h : PB w b a c t) (hb : Below w.heap.size w w') : PB w' b a c t := fun i hi => (hb.cell (p := ⟨b, i, none⟩) h.lt).trans (h i hi)
theorem PB.below' {w w' : World} {b B : Nat} {a : Nat → Option Addr} {c : Nat → Nat} {t : Nat → List Rg} (h : PB w b a c t) (hb : Below B w w') (hB : b < B) : PB w' b a c t := fun i hi => (hb.cell (p := ⟨b, i, none⟩) hB).trans (h i hi)
theorem prop_new (w : World) (a : Nat → Option Addr) (c : Nat → Nat) (t : Nat → List Rg) : PB (w.alloc (.cells #[.slice (a 0) (t 0).length (c 0), .slice (a 1) (t 1).length (c 1), .slice (a 2) (t 2).length (c 2), .slice (a 3) (t 3).length (c 3), .slice (a 4) (t 4).length (c 4), .slice (a 5) (t 5).length (c 5), .slice (a 6) (t 6).length (c 6), .slice (a 7) (t 7).length (c 7), .slice (a 8) (t 8).length (c 8), .slice (a 9) (t 9).length (c 9), .slice (a 10) (t 10).length (c 10)] 24)) w.heap.size a c t := by
  intro i hi
  rcases (by omega : i = 0 ∨ i = 1 ∨ i = 2 ∨ i = 3 ∨ i = 4 ∨ i = 5 ∨ i = 6 ∨ i = 7 ∨ i = 8 ∨ i = 9 ∨ i = 10) with rfl | rfl | rfl | rfl | rfl | rfl | rfl | rfl | rfl | rfl | rfl <;> rw [World.cell?_alloc_new] <;> rfl
/-- a block of properties is laid -/
theorem prop_box (w : World) (a : Nat → Option Addr) (c : Nat → Nat) (t : Nat → List Rg) : ∃ W0, w.alloc (.cells #[.slice (a 0) (t 0).length (c 0), .slice (a 1) (t 1).length (c 1), .slice (a 2) (t 2).length (c 2), .slice (a 3) (t 3).length (c 3), .slice (a 4) (t 4).length (c 4), .slice (a 5) (t 5).length (c 5), .slice (a 6) (t 6).length (c 6), .slice (a 7) (t 7).length (c 7), .slice (a 8) (t 8).length (c 8), .slice (a 9) (t 9).length (c 9), .slice (a 10) (t 10).length (c 10)] 24) = W0 ∧ W0.heap.size = w.heap.size + 1 ∧ Below w.heap.size w W0 ∧ PB W0 w.heap.size a c t :=
  ⟨_, rfl, by rw [World.size_alloc], (Below.refl _ w).alloc (Nat.le_refl _) _, prop_new w a c t⟩
/-- what is asked of a table that is searched -/
structure Ok (l : List Rg) : Prop where
  len : l.length ≤ 2000
  ap : Apart l
  ri : Rises l
theorem ok_nil : Ok [] := ⟨by simp, fun i j h1 h2 => by simp at h2, fun i j h1 h2 => by simp at h2⟩
theorem right7_ok {t : Nat → List Rg} (h : (chk7 t).2 = 0) : ∀ i, i < 11 → Ok (t i) := fun i hi => ⟨(right7 h i hi).1, (right7 h i hi).2.1, (right7 h i hi).2.2.1⟩
def wid7 (r : Int) : Int := if r < 0 ∨ 1114111 < r then 0 else if r < 128 then 1 else if r < 2048 then 2 else if 55296 ≤ r ∧ r ≤ 57343 then 0 else if r < 65536 then 3 else 4
theorem wid7_right (r : Int) : decide (0 < wid7 r) = rightR r := by
  unfold wid7 rightR; rw [decide_eq_decide]; (repeat' split) <;> omega
end Go.Proofs.YtcklfcoobccgcaaDoor

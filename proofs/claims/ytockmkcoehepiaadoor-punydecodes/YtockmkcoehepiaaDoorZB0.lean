/-
  What is proved here: who decodes, as a struct in memory.
-/
import Derived.Test.YtockmkcoehepiaaDoorZA
namespace Go.Proofs.YtockmkcoehepiaaDoor
open Go.RowKit

/-- who decodes, in the block B: the text, the byte that is read next; v: the runes that are there -/
def DecAt (w : World) (B : Nat) (s : ByteArray) (at1 : Nat) (d : Dst) (v : Value) : Prop :=
  Blk w B 86 [.int .i64 d.bias, .bool (!d.first), .int .i64 d.n, .int .i64 d.i, .int .i64 (d.out.length : Int), .string s, .int .i64 (at1 : Int), v] ∧ w.ownsRow (B + 1) 21 1 v d.out.length (cellsOf d.out)
/-- what holds of who decodes -/
structure DBd (d : Dst) : Prop where
  n0 : 0 ≤ d.n
  n1 : d.n ≤ 1114111
  i0 : 0 ≤ d.i
  i1 : d.i ≤ d.out.length
  m1 : d.out.length ≤ 130
  b0 : 0 ≤ d.bias
  b1 : d.bias ≤ 215
theorem rd_pos {bias : Int} {bs rest : List Int} {a a' : Nat} {d : Int} (h : rdM bias bs a 0 0 1 = .ok d rest a') : 0 ≤ d ∧ d ≤ 2147483647 ∧ a < a' ∧ a' + rest.length = a + bs.length ∧ ∃ C, bs = C ++ rest := by
  obtain ⟨C, d', e1, e2, e3, e4, e5, e6, e7⟩ := rd_ok bias bs a 0 0 1 d rest a' (by omega) (by omega) h
  refine ⟨by omega, by omega, by omega, ?_, C, e1⟩
  rw [e1, List.length_append]
  omega
end Go.Proofs.YtockmkcoehepiaaDoor

/-
  What is proved here: that slices.Insert of a range into a slice that has room answers as it should.
-/
import Derived.Test.YthheplgpjhhbmaaDoorB2
import Derived.Shelf.Spec.SlicesInsert
import Derived.Laws.CopyRow
import Derived.Lib.AppendZerosOnto
namespace Go.Proofs.YthheplgpjhhbmaaDoor
open Go.RowKit Go.Shelf Go.Lib

/-- copy, of elements of k cells, into a row of its own -/
theorem run_copyK {P : Program} (w : World) (dT sT ty elem : TypeId) (g o dLen dCap : Nat) (a : Addr) (sLen sCap : Nat) (cur : Array Value) (t : TypeId) (cs : List Value) (k m : Nat)
    (hu : P.underlying dT = some (.slice elem)) (hs : (P.info? elem).map (·.size) = some k)
    (hg : w.heap[g]? = some (.cells cur t (0, 0))) (hm : Nat.min sLen dLen = m) (hn : cs.length = m * k)
    (hsrc : ∀ j v, cs[j]? = some v → w.cell? (a.add j) = some v) (hfit : o + cs.length ≤ cur.size) (h1 : ∀ v ∈ cs, v.oneCell' = true) :
    (Builtin.copy_ #[dT, sT] ty #[.slice (some ⟨g, o, none⟩) dLen dCap, .slice (some a) sLen sCap]).run P w =
      .ok (goInt m) (w.setRow g (cur.toList.take o ++ cs ++ cur.toList.drop (o + cs.length)).toArray) := by
  have hl := run_loadCells_list (P := P) w a cs hsrc
  have hst := run_storeCells_at P g o t cs 0 cur w hg (by simpa using hfit) h1
  cases hq : P.info? elem with
  | none => simp [hq] at hs
  | some i =>
    have hi : i.size = k := by simpa [hq] using hs
    simp [Builtin.copy_, run_underlying hu, Builtin.lenOf, Builtin.firstCells, sizeOf, typeInfo, hq, hi, hm, ← hn, hl, hst]
theorem cellsOf_ins (t : List Rg) (i : Nat) (r : Rg) : cellsOf (insAt t i r) = (cellsOf t).take (i * 3) ++ r.cells ++ (cellsOf t).drop (i * 3) := by
  have h1 : ∀ (t : List Rg) (i : Nat), cellsOf (t.take i) = (cellsOf t).take (i * 3) ∧ cellsOf (t.drop i) = (cellsOf t).drop (i * 3) := by
    intro t
    induction t with
    | nil => intro i; simp [cellsOf]
    | cons q t ih =>
      intro i
      cases i with
      | zero => simp [cellsOf]
      | succ i =>
        have e : cellsOf (q :: t) = q.cells ++ cellsOf t := rfl
        have hl : q.cells.length = 3 := rfl
        have h3 : (i + 1) * 3 = q.cells.length + i * 3 := by rw [hl]; omega
        refine ⟨?_, ?_⟩
        · show q.cells ++ cellsOf (t.take i) = _
          rw [e, h3, List.take_length_add_append, (ih i).1]
        · show cellsOf (t.drop i) = _
          rw [e, h3, List.drop_length_add_append, (ih i).2]
  unfold insAt
  have e : cellsOf (t.take i ++ r :: t.drop i) = cellsOf (t.take i) ++ (r.cells ++ cellsOf (t.drop i)) := by simp [cellsOf]
  rw [e, (h1 t i).1, (h1 t i).2]
  simp
theorem below_setRow {B g : Nat} {w : World} (h : B ≤ g) (cs : Array Value) : Below B w (w.setRow g cs) := by
  refine ⟨rfl, rfl, rfl, by simp [World.setRow], fun k hk => ?_⟩
  show (w.heap.modify g _)[k]? = _
  rw [Array.getElem?_modify]
  split
  · omega
  · simp
theorem setRow_other {w : World} {g b : Nat} (h : b ≠ g) (cs : Array Value) : (w.setRow g cs).heap[b]? = w.heap[b]? := by
  show (w.heap.modify g _)[b]? = _
  rw [Array.getElem?_modify]
  split
  · omega
  · simp
theorem Tryd.sizeRg (w : World) : (Go.sizeOf 37).run Tryd.prog w = .ok 3 w := by
  obtain ⟨i0, hi, hz0, hz1, hz2⟩ := info_parts Tryd.infoRange
  simp [Go.sizeOf, typeInfo, hi, hz1]
/-- the row behind the two copies -/
theorem row_shift (cur cs vs : List Value) (i n c : Nat) (hi : i < n) (hc : n + 1 ≤ c) (hl : cur.length = c * 3) (hcs : cur.take (n * 3) = cs) (hv : vs.length = 3) :
    (((cur.take ((i + 1) * 3) ++ cs.drop (i * 3) ++ cur.drop ((i + 1) * 3 + (cs.drop (i * 3)).length)).take (i * 3) ++ vs ++ (cur.take ((i + 1) * 3) ++ cs.drop (i * 3) ++ cur.drop ((i + 1) * 3 + (cs.drop (i * 3)).length)).drop (i * 3 + vs.length))).take ((n + 1) * 3) = cs.take (i * 3) ++ vs ++ cs.drop (i * 3)
    ∧ (((cur.take ((i + 1) * 3) ++ cs.drop (i * 3) ++ cur.drop ((i + 1) * 3 + (cs.drop (i * 3)).length)).take (i * 3) ++ vs ++ (cur.take ((i + 1) * 3) ++ cs.drop (i * 3) ++ cur.drop ((i + 1) * 3 + (cs.drop (i * 3)).length)).drop (i * 3 + vs.length))).length = c * 3 := by
  have hcl : cs.length = n * 3 := by rw [← hcs, List.length_take]; omega
  have hdl : (cs.drop (i * 3)).length = (n - i) * 3 := by rw [List.length_drop, hcl]; omega
  have e1 : (cur.take ((i + 1) * 3) ++ cs.drop (i * 3) ++ cur.drop ((i + 1) * 3 + (cs.drop (i * 3)).length)).take (i * 3) = cs.take (i * 3) := by
    rw [List.append_assoc, List.take_append_of_le_length (by rw [List.length_take]; omega), List.take_take, ← hcs, List.take_take]
    congr 1
    omega
  have e2 : (cur.take ((i + 1) * 3) ++ cs.drop (i * 3) ++ cur.drop ((i + 1) * 3 + (cs.drop (i * 3)).length)).drop (i * 3 + vs.length) = cs.drop (i * 3) ++ cur.drop ((i + 1) * 3 + (cs.drop (i * 3)).length) := by
    have h3 : i * 3 + vs.length = (cur.take ((i + 1) * 3)).length := by rw [List.length_take]; omega
    rw [List.append_assoc, h3, List.drop_left]
  rw [e1, e2]
  refine ⟨?_, ?_⟩
  · have h4 : (n + 1) * 3 = (cs.take (i * 3) ++ vs ++ cs.drop (i * 3)).length := by simp only [List.length_append, List.length_take, hdl]; omega
    rw [← List.append_assoc, h4, List.take_left]
  · simp only [List.length_append, List.length_take, List.length_drop]; omega
end Go.Proofs.YthheplgpjhhbmaaDoor

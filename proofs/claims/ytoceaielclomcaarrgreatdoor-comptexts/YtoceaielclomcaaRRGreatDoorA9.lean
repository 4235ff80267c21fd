/-
  What is proved here: what checkRows answers, where slices.Sort does what it says.
-/
import Derived.Test.YtoceaielclomcaaRRGreatDoorA8
import Derived.Laws.OwnMore
import Derived.Laws.MakeOwn
namespace Go.Proofs.YtoceaielclomcaaRRGreatDoor
open Go.RowKit

/-- a list of n numbers, of which the first k are as f says, the others 0 -/
def upTo (f : Nat → Int) (n k : Nat) : List Int := (List.range n).map fun j => if j < k then f j else 0
theorem upTo_len (f : Nat → Int) (n k : Nat) : (upTo f n k).length = n := by simp [upTo]
theorem upTo_zero (f : Nat → Int) (n : Nat) : upTo f n 0 = List.replicate n 0 := by
  apply List.ext_getElem
  · simp [upTo]
  · intro i h1 h2; simp [upTo]
theorem upTo_set (f : Nat → Int) (n k : Nat) : (upTo f n k).set k (f k) = upTo f n (k + 1) := by
  apply List.ext_getElem
  · simp [upTo]
  · intro i h1 h2
    simp only [upTo, List.getElem_set, List.getElem_map, List.getElem_range]
    by_cases h : k = i
    · subst h; simp
    · rw [if_neg h]
      by_cases g : i < k
      · rw [if_pos g, if_pos (by omega)]
      · rw [if_neg g, if_neg (by omega)]
theorem upTo_all (l : List Rw) : upTo (fun j => (rw_ l j).fr) l.length l.length = l.map Rw.fr := by
  apply List.ext_getElem
  · simp [upTo]
  · intro i h1 h2
    have hi : i < l.length := by simpa [upTo] using h1
    simp only [upTo, List.getElem_map, List.getElem_range]
    rw [if_pos hi]
    unfold rw_
    rw [List.getD, List.getElem?_eq_getElem hi]
    rfl
theorem map_set_int (K : IntKind) (xs : List Int) (k : Nat) (x : Int) : (xs.map (Value.int K)).set k (.int K x) = (xs.set k x).map (Value.int K) := by
  rw [List.map_set]
theorem made_ints (K : IntKind) (n : Nat) : (madeCells (Value.int K 0).cells (n * 1)).toList = (List.replicate n (0 : Int)).map (Value.int K) := by
  have : (Value.int K 0).cells = #[Value.int K 0] := rfl
  rw [this, Nat.mul_one, toList_madeCells_one, List.map_replicate]
theorem nam_ne {p : Nat → Addr} {c : Nat} (h : c ≠ 0) : nam p c = .iface 223 (.pointer (some (p c))) := if_neg h
theorem any_fr {l : List Rw} {rs : List Int} {x : Int} (hp : rs.Perm (l.map Rw.fr)) : (l.any fun y => y.fr == x) = rs.any fun y => y == x := by
  rw [Bool.eq_iff_iff, List.any_eq_true, List.any_eq_true]
  constructor
  · rintro ⟨y, hy, h⟩
    exact ⟨y.fr, hp.mem_iff.2 (List.mem_map.2 ⟨y, hy, rfl⟩), h⟩
  · rintro ⟨y, hy, h⟩
    obtain ⟨z, hz, rfl⟩ := List.mem_map.1 (hp.mem_iff.1 hy)
    exact ⟨z, hz, h⟩
theorem sought_any {rs : List Int} {x y : Int} (h : Sought rs.length (fun i => rs.getD i 0) x y) : decide (0 ≤ y) = rs.any fun z => z == x := by
  rcases h with ⟨k, rfl, hk, e⟩ | ⟨rfl, h⟩
  · rw [List.any_eq_true.2]
    · simp
    · refine ⟨rs.getD k 0, ?_, by simpa using e⟩
      rw [List.getD, List.getElem?_eq_getElem hk]
      exact List.getElem_mem hk
  · rw [List.any_eq_false.2]
    · rfl
    · intro z hz
      obtain ⟨k, hk, rfl⟩ := List.mem_iff_getElem.1 hz
      have := h k hk
      simp only [List.getD, List.getElem?_eq_getElem hk, Option.getD_some] at this
      simpa using this
/-- a Fault that is laid just now -/
theorem flt_new {W : World} {base : Nat} (hB : base ≤ W.heap.size) (x : Int) (q : Addr) : Flt (W.alloc (.cells #[.int .i64 x, .iface 223 (.pointer (some q))] 65)) (.iface 63 (.pointer (some ⟨W.heap.size, 0, none⟩))) base x q :=
  ⟨W.heap.size, hB, rfl, by rw [World.cell?_alloc_new]; rfl, by rw [World.cell?_alloc_new]; rfl⟩
theorem Tryz.infoInt : (Tryz.prog.info? 3).map (fun i => (i.zero, i.size, i.bytes)) = some (some (.int .i64 0), 1, 8) := by kernel_rfl
end Go.Proofs.YtoceaielclomcaaRRGreatDoor

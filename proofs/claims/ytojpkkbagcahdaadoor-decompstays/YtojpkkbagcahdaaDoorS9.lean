/-
  What is proved here: a part of a row of runes of one's own is sorted: what the row then holds.
-/
import Derived.Test.YtojpkkbagcahdaaDoorS8
namespace Go.Proofs.YtojpkkbagcahdaaDoor
open Go.RowKit Go.Sort

theorem below_grow (w : World) (n : Nat) (os : Array Obj) : Below w.heap.size w (grow (w.drewN n) os) := by
  refine ⟨rfl, rfl, rfl, by simp [grow, World.drewN], fun k hk => ?_⟩
  show (w.heap ++ os)[k]? = w.heap[k]?
  rw [Array.getElem?_append_left hk]
theorem below_sorted {w0 w w2 : World} {B g fr : Nat} {L' : List Int} (hb : Below B w0 w) (hg : B ≤ g) (hgs : g < w.heap.size) (h : SL w g fr L' w2) : Below B w0 w2 := by
  obtain ⟨m, os, rfl⟩ := h
  refine hb.trans ⟨rfl, rfl, rfl, by simp [sortWorld, grow, putRow, mapBlock, Sort.ahead], fun k hk => ?_⟩
  show ((w.heap.modify g (onCells (putCells (Value.int .i32) fr L'.toArray))) ++ os)[k]? = w.heap[k]?
  rw [Array.getElem?_append_left (by simp; omega), Array.getElem?_modify, if_neg (by omega)]
theorem own_sorted {w w2 : World} {B g n cap fr : Nat} {P S Q S' : List Int} (h : w.ownsRow B 21 1 (.slice (some ⟨g, 0, none⟩) n cap) n ((P ++ S ++ Q).map (Value.int .i32))) (hP : P.length = fr) (hS : S'.length = S.length) (hw : SL w g fr S' w2) : w2.ownsRow B 21 1 (.slice (some ⟨g, 0, none⟩) n cap) n ((P ++ S' ++ Q).map (Value.int .i32)) := by
  obtain ⟨m, os, rfl⟩ := hw
  obtain ⟨h1, h2⟩ := h
  refine ⟨by simpa [hS] using h1, ?_⟩
  rcases h2 with ⟨e0, -⟩ | ⟨g', cap', cur, e0, hb, hg, hn, hm, hs, ht⟩
  · cases e0
  · injection e0 with e1 _ e3
    injection e1 with e1
    injection e1 with e1
    subst e1 e3
    have hgl : g < w.heap.size := by
      rcases Nat.lt_or_ge g w.heap.size with q | q
      · exact q
      · rw [Array.getElem?_eq_none q] at hg; cases hg
    refine .inr ⟨g, cap, putCells (Value.int .i32) fr S'.toArray cur, rfl, hb, ?_, hn, hm, by simpa [putCells] using hs, ?_⟩
    · show ((w.heap.modify g (onCells (putCells (Value.int .i32) fr S'.toArray))) ++ os)[g]? = _
      rw [Array.getElem?_append_left (by simpa using hgl), Array.getElem?_modify, if_pos rfl, hg]
      rfl
    · have hnl : (P ++ S ++ Q).length = n := by simpa using h1
      have hl : n ≤ cur.size := by omega
      apply List.ext_getElem
      · simp [putCells]
        simp at hnl
        omega
      · intro i i1 i2
        have hin : i < n := by simp at i1; omega
        have hc : cur[i]'(by omega) = Value.int .i32 ((P ++ S ++ Q)[i]'(by omega)) := by
          have e9 : (cur.toList.take (n * 1))[i]'(by simp; omega) = ((P ++ S ++ Q).map (Value.int .i32))[i]'(by simpa using (by omega : i < (P ++ S ++ Q).length)) := by simp only [ht]
          simp only [List.getElem_take, Array.getElem_toList, List.getElem_map] at e9
          exact e9
        simp only [List.getElem_take, Array.getElem_toList, putCells, Array.getElem_mapIdx, List.getElem_map]
        by_cases q1 : i < fr
        · rw [if_neg (by omega), hc, List.getElem_append_left (by simp; omega), List.getElem_append_left (by omega), List.getElem_append_left (by simp; omega), List.getElem_append_left (by omega)]
        · by_cases q2 : i < fr + S'.length
          · rw [if_pos ⟨by omega, by simpa using q2⟩, List.getElem_append_left (by simp; omega), List.getElem_append_right (by omega)]
            congr 1
            rw [arr_get, List.getD, List.getElem?_eq_getElem (by omega)]
            simp [hP]
          · rw [if_neg (by simp; omega), hc, List.getElem_append_right (by simp; omega), List.getElem_append_right (by simp; omega)]
            congr 1
            simp [hS]
end Go.Proofs.YtojpkkbagcahdaaDoor

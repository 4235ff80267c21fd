/-
  What is proved here: what the reference's Digit (layer 2) answers; a struct of four cells that is written field by field.
-/
import Derived.Test.YteflghhpdikidaaDoorPct5
namespace Go.Proofs.YteflghhpdikidaaDoor
open Go.RowKit

set_option maxHeartbeats 1000000 in
theorem digit_some (b x : Nat) (w : World) (h : Pct.hex b = some x) :
    Calls Tryd.prog 27 #[.int .u8 b] w fun e w' => e = .returned (.int .i64 x) ∧ w = w' := by
  have hb : (48 ≤ b ∧ b ≤ 57 ∧ x = b - 48) ∨ (97 ≤ b ∧ b ≤ 102 ∧ x = b - 87) ∨ (65 ≤ b ∧ b ≤ 70 ∧ x = b - 55) := by
    unfold Pct.hex at h; (repeat' split at h) <;> simp at h <;> omega
  clear h
  rcases hb with ⟨h1, h2, h3⟩ | ⟨h1, h2, h3⟩ | ⟨h1, h2, h3⟩
  all_goals
    go_enter Tryd.func27, Tryd.ntmps27
    go_wp2
    go_ret
    exact ⟨ret_int (by omega), rfl⟩

set_option maxHeartbeats 1000000 in
theorem digit_none (b : Nat) (w : World) (h : Pct.hex b = none) :
    Calls Tryd.prog 27 #[.int .u8 b] w fun e w' => e = .returned (.int .i64 (-1)) ∧ w = w' := by
  have hb : b < 48 ∨ (57 < b ∧ b < 65) ∨ (70 < b ∧ b < 97) ∨ 102 < b := by
    unfold Pct.hex at h; (repeat' split at h) <;> simp at h <;> omega
  clear h
  rcases hb with h1 | ⟨h1, h2⟩ | ⟨h1, h2⟩ | h1
  all_goals
    go_enter Tryd.func27, Tryd.ntmps27
    go_wp2
    go_ret
    exact ⟨rfl, rfl⟩

theorem conv_one (w : World) (b : Int) :
    (convert 52 9 (.slice (some ⟨w.heap.size, 0, none⟩) 1 1)).run Tryd.prog (w.alloc (.cells #[.int .u8 b] 5)) = .ok (.string (strOfNums [b])) (w.alloc (.cells #[.int .u8 b] 5)) := by
  refine run_convert_bytes_arg _ 52 5 Tryd.underlying52 Tryd.underlying5 w.heap.size 0 1 1 [b] rfl (fun j hj => ?_) _ Tryd.underlying9
  obtain rfl : j = 0 := by simp at hj; omega
  simp
/-- A BLOCK OF FOUR CELLS -/
theorem four_cell {w : World} {b : Nat} {x0 x1 x2 x3 : Value} {t : TypeId} (h : w.heap[b]? = some (.cells #[x0, x1, x2, x3] t (0, 0))) :
    w.cell? ⟨b, 0, none⟩ = some x0 ∧ w.cell? ⟨b, 1, none⟩ = some x1 ∧ w.cell? ⟨b, 2, none⟩ = some x2 ∧ w.cell? ⟨b, 3, none⟩ = some x3 := by simp [World.cell?, h]
theorem four_free {w : World} {b : Nat} {x0 x1 x2 x3 : Value} {t : TypeId} (h : w.heap[b]? = some (.cells #[x0, x1, x2, x3] t (0, 0))) :
    w.frozen? ⟨b, 0, none⟩ = false ∧ w.frozen? ⟨b, 1, none⟩ = false ∧ w.frozen? ⟨b, 2, none⟩ = false ∧ w.frozen? ⟨b, 3, none⟩ = false := by simp [World.frozen?, h]
theorem four_set0 {w : World} {b : Nat} {x0 x1 x2 x3 u : Value} {t : TypeId} (h : w.heap[b]? = some (.cells #[x0, x1, x2, x3] t (0, 0))) : (w.setCell ⟨b, 0, none⟩ u).heap[b]? = some (.cells #[u, x1, x2, x3] t (0, 0)) := by
  have hlt := lt_of_block h
  have h' : w.heap[b] = .cells #[x0, x1, x2, x3] t (0, 0) := by simpa [Array.getElem?_eq_getElem hlt] using h
  show (w.heap.modify b _)[b]? = _
  rw [Array.getElem?_eq_getElem (by simpa using hlt), Array.getElem_modify_self, h']
  rfl
theorem four_set1 {w : World} {b : Nat} {x0 x1 x2 x3 u : Value} {t : TypeId} (h : w.heap[b]? = some (.cells #[x0, x1, x2, x3] t (0, 0))) : (w.setCell ⟨b, 1, none⟩ u).heap[b]? = some (.cells #[x0, u, x2, x3] t (0, 0)) := by
  have hlt := lt_of_block h
  have h' : w.heap[b] = .cells #[x0, x1, x2, x3] t (0, 0) := by simpa [Array.getElem?_eq_getElem hlt] using h
  show (w.heap.modify b _)[b]? = _
  rw [Array.getElem?_eq_getElem (by simpa using hlt), Array.getElem_modify_self, h']
  rfl

/-- what the reference has gathered so far, in its variable (the block B) -/
def GotAt (B : Nat) (m : List (Nat × UInt8)) (w : World) : Prop :=
  ∃ v, w.heap[B]? = some (.cells #[.string (Pct.str m), v, .int .i64 0, .int .i64 0] 29 (0, 0)) ∧ w.ownsRow (B + 1) 3 1 v m.length ((m.map fun x => (x.1 : Int)).map (Value.int .i64))
theorem str_size (m : List (Nat × UInt8)) : (Pct.str m).size = m.length := by simp [Pct.str, ByteArray.size]
theorem str_snoc (m : List (Nat × UInt8)) (k : Nat) (c : UInt8) (t : ByteArray) (h : t.data.toList = [c]) : Pct.str m ++ t = Pct.str (m ++ [(k, c)]) := by
  obtain ⟨⟨tl⟩⟩ := t
  have : tl = [c] := h
  subst this
  apply ByteArray.ext
  simp [Pct.str]
theorem cut_one (s : ByteArray) (k : Nat) (h : k < s.size) : (s.extract k (k + 1)).data.toList = [s[k]] := by
  rw [Lib.extract_data, show k + 1 - k = 1 by omega, drop_cons s k h]; rfl
/-- the first field written: the row in the second stays -/
theorem got_mid {B : Nat} {v : Value} {t : TypeId} {n : Nat} {xs : List Value} {x0 x2 x3 : Value} {w : World} (u : Value) (hv : w.heap[B]? = some (.cells #[x0, v, x2, x3] t (0, 0))) (ho : w.ownsRow (B + 1) 3 1 v n xs) :
    (w.setCell ⟨B, 0, none⟩ u).heap[B]? = some (.cells #[u, v, x2, x3] t (0, 0)) ∧ (w.setCell ⟨B, 0, none⟩ u).ownsRow (B + 1) 3 1 v n xs ∧ Below B w (w.setCell ⟨B, 0, none⟩ u) :=
  ⟨four_set0 hv, ownsRow_setCell_other ho (fun e => by have h1 := (ho.lt _ e).1; simp at h1; omega) u, (Below.refl _ _).setCell (p := ⟨B, 0, none⟩) (Nat.le_refl _) _⟩
/-- 'g.Places = append(g.Places, x)': 'tmp' the block that the new element is laid in, w1 the world behind the append -/
theorem got_push {B n : Nat} {l : List Int} (hn : l.length = n) {wr w1 : World} {v v' x0 x2 x3 : Value} {t : TypeId} (x : Int) (tmp : Obj)
    (hv : wr.heap[B]? = some (.cells #[x0, v, x2, x3] t (0, 0))) (hown : wr.ownsRow (B + 1) 3 1 v n (l.map (Value.int .i64)))
    (hown' : w1.ownsRow (B + 1) 3 1 v' (n + 1) (l.map (Value.int .i64) ++ [.int .i64 x])) (hgrow : (wr.alloc tmp).grownBy w1 v.ownBlock) :
    (∃ g' cap', v' = .slice (some ⟨g', 0, none⟩) (n + 1) cap') ∧ w1.cell? ⟨B, 1, none⟩ = some v ∧ w1.frozen? ⟨B, 1, none⟩ = false ∧ (w1.setCell ⟨B, 1, none⟩ v').heap[B]? = some (.cells #[x0, v', x2, x3] t (0, 0)) ∧ (w1.setCell ⟨B, 1, none⟩ v').ownsRow (B + 1) 3 1 v' (l ++ [x]).length ((l ++ [x]).map (Value.int .i64)) ∧ Below B wr (w1.setCell ⟨B, 1, none⟩ v') := by
  subst hn
  have hB := lt_of_block hv
  have hlt : ∀ j, v.ownBlock = some j → B + 1 ≤ j := fun j hj => (hown.lt j hj).1
  have hv1 : w1.heap[B]? = some (.cells #[x0, v, x2, x3] t (0, 0)) := by
    rw [hgrow.block B (by simp; omega) (fun e => by have := hlt B e.symm; omega), Below.heap_alloc _ _ _ hB]; exact hv
  have hne' : v'.ownBlock ≠ some B := fun e => by have := (hown'.lt B e).1; omega
  refine ⟨?_, (four_cell hv1).2.1, (four_free hv1).2.1, four_set1 hv1, ?_, ?_⟩
  · rcases hown'.2 with ⟨_, h0⟩ | ⟨g, cap, cur, rfl, _, _⟩
    · omega
    · exact ⟨g, cap, rfl⟩
  · have := ownsRow_setCell_other hown' (a := ⟨B, 1, none⟩) hne' v'
    simpa using this
  · exact Below.setCell (p := ⟨B, 1, none⟩) (((Below.refl B wr).alloc (by omega) _).grown hgrow (by simp; omega) (fun j hj => by have := hlt j hj; omega)) (Nat.le_refl B) _
theorem four_set2 {w : World} {b : Nat} {x0 x1 x2 x3 u : Value} {t : TypeId} (h : w.heap[b]? = some (.cells #[x0, x1, x2, x3] t (0, 0))) : (w.setCell ⟨b, 2, none⟩ u).heap[b]? = some (.cells #[x0, x1, u, x3] t (0, 0)) := by
  have hlt := lt_of_block h
  have h' : w.heap[b] = .cells #[x0, x1, x2, x3] t (0, 0) := by simpa [Array.getElem?_eq_getElem hlt] using h
  show (w.heap.modify b _)[b]? = _
  rw [Array.getElem?_eq_getElem (by simpa using hlt), Array.getElem_modify_self, h']
  rfl
theorem four_set3 {w : World} {b : Nat} {x0 x1 x2 x3 u : Value} {t : TypeId} (h : w.heap[b]? = some (.cells #[x0, x1, x2, x3] t (0, 0))) : (w.setCell ⟨b, 3, none⟩ u).heap[b]? = some (.cells #[x0, x1, x2, u] t (0, 0)) := by
  have hlt := lt_of_block h
  have h' : w.heap[b] = .cells #[x0, x1, x2, x3] t (0, 0) := by simpa [Array.getElem?_eq_getElem hlt] using h
  show (w.heap.modify b _)[b]? = _
  rw [Array.getElem?_eq_getElem (by simpa using hlt), Array.getElem_modify_self, h']
  rfl
/-- all four fields written -/
theorem four_store {w : World} {b : Nat} {x0 x1 x2 x3 y0 y1 y2 y3 : Value} {t : TypeId} (h : w.heap[b]? = some (.cells #[x0, x1, x2, x3] t (0, 0))) :
    ∃ W : World, W = (((w.setCell ⟨b, 0, none⟩ y0).setCell ⟨b, 1, none⟩ y1).setCell ⟨b, 2, none⟩ y2).setCell ⟨b, 3, none⟩ y3 ∧ W.heap[b]? = some (.cells #[y0, y1, y2, y3] t (0, 0)) ∧ Below b w W ∧
      ∀ {B E k v n xs}, b < B → w.ownsRow B E k v n xs → W.ownsRow B E k v n xs := by
  refine ⟨_, rfl, four_set3 (four_set2 (four_set1 (four_set0 h))), ?_, ?_⟩
  · exact ((((Below.refl b w).setCell (p := ⟨b, 0, none⟩) (Nat.le_refl _) _).setCell (p := ⟨b, 1, none⟩) (Nat.le_refl _) _).setCell (p := ⟨b, 2, none⟩) (Nat.le_refl _) _).setCell (p := ⟨b, 3, none⟩) (Nat.le_refl _) _
  · intro B E k v n xs hB ho
    have hne : ∀ j, v.ownBlock ≠ some (⟨b, j, none⟩ : Addr).block := fun j e => by have h1 := (ho.lt _ e).1; simp at h1; omega
    exact ownsRow_setCell_other (ownsRow_setCell_other (ownsRow_setCell_other (ownsRow_setCell_other ho (hne 0) _) (hne 1) _) (hne 2) _) (hne 3) _
theorem own_slice {w : World} {B : Nat} {E : TypeId} {v : Value} {n : Nat} {xs : List Value} (h : w.ownsRow B E 1 v n xs) : ∃ a c, v = .slice a n c := by
  rcases h.2 with ⟨rfl, h0⟩ | ⟨g, cap, cur, rfl, _, _⟩
  · exact ⟨none, 0, by rw [h0]⟩
  · exact ⟨_, _, rfl⟩
end Go.Proofs.YteflghhpdikidaaDoor

/-
  What is proved here: what pct.setOf answers: of each number below 256 whether it is a byte of one of the texts.
-/
import Derived.Test.YteflghhpdikidaaDoorBase
import Derived.OneCell
import Derived.Laws.Rows
namespace Go.Proofs.YteflghhpdikidaaDoor
open Go.RowKit

/-- 256 truths, as cells -/
def boolCells (f : Nat → Bool) : Array Value := Array.ofFn (n := 256) fun i => .bool (f i)
theorem boolCells_size (f : Nat → Bool) : (boolCells f).size = 256 := by simp [boolCells]
theorem boolCells_get (f : Nat → Bool) (i : Nat) (h : i < 256) : (boolCells f)[i]? = some (.bool (f i)) := by simp [boolCells, h]
theorem boolCells_set (f : Nat → Bool) (b : Nat) (x : Bool) : (boolCells f).setIfInBounds b (.bool x) = boolCells fun i => if i = b then x else f i := by
  apply Array.ext
  · simp [boolCells]
  · intro i h1 h2
    have hi : i < (Array.ofFn (n := 256) fun i => Value.bool (f i)).size := by simpa [boolCells] using h2
    have e : ((Array.ofFn (n := 256) fun i => Value.bool (f i)).setIfInBounds b (Value.bool x))[i]'(by simpa using hi) = if b = i then Value.bool x else (Array.ofFn (n := 256) fun i => Value.bool (f i))[i] := Array.getElem_setIfInBounds hi
    refine e.trans ?_
    by_cases h : b = i
    · subst h; simp [boolCells]
    · simp [boolCells, h, Ne.symm h]
theorem boolCells_all (f : Nat → Bool) : (boolCells f).all (·.oneCell') = true := by
  rw [Array.all_eq_true]
  intro i h
  simp [boolCells, Value.oneCell']
/-- does one of the texts have the byte? -/
def hasB (ss : List ByteArray) (i : Nat) : Bool := ss.any fun s => s.data.toList.any fun c => c.toNat == i
/-- a slice value that holds texts -/
def Texts (w : World) (v : Value) (ss : List ByteArray) : Prop :=
  ∃ a cap, v = .slice a ss.length cap ∧ ∀ j, j < ss.length → ∃ b off, a = some ⟨b, off, none⟩ ∧ w.cell? ⟨b, off + j, none⟩ = some (.string (ss.getD j ByteArray.empty))

theorem zeroSet : Tryd.zeroCells66 = boolCells fun _ => false := by kernel_rfl
theorem hasB_nil : hasB [] = fun _ => false := rfl
theorem take_snocB {ss : List ByteArray} {j : Nat} (h : j < ss.length) : ss.take (j + 1) = ss.take j ++ [ss.getD j ByteArray.empty] := by
  rw [List.take_succ_eq_append_getElem h]; simp [List.getD, h]
theorem hasB_snoc (ss : List ByteArray) (s : ByteArray) : hasB (ss ++ [s]) = fun i => hasB ss i || s.data.toList.any fun c => c.toNat == i := by
  funext i; simp [hasB]
theorem any_snoc (s : ByteArray) (k : Nat) (h : k < s.size) (i : Nat) : ((s.data.toList.take (k + 1)).any fun c => c.toNat == i) = ((s.data.toList.take k).any (fun c => c.toNat == i) || s[k].toNat == i) := by
  have e : s.data.toList.take (k + 1) = s.data.toList.take k ++ [s[k]] := by
    rw [List.take_succ_eq_append_getElem (by simpa using h)]; rfl
  rw [e]; simp
theorem Tryd.sizeSet : (Tryd.prog.info? 66).map (·.size) = some 256 := by kernel_rfl

set_option maxRecDepth 100000 in
set_option maxHeartbeats 4000000 in
theorem setOf_any (v : Value) (ss : List ByteArray) (w : World) (hv : Texts w v ss) (hl : ss.length ≤ 8) (hsz : ∀ s ∈ ss, s.size ≤ 4294967296) :
    Calls Tryd.prog 34 #[v] w fun e w' => e = .returned (.agg (boolCells (hasB ss))) ∧ Below w.heap.size w w' := by
  obtain ⟨a, cap, rfl, hv⟩ := hv
  have HV := Hid.mk' hv
  clear hv
  go_enter Tryd.func34, Tryd.ntmps34
  go_wp2
  go_loopw [9] (fun i wr => ∃ j : Nat, j ≤ ss.length ∧ i = .int .i64 j ∧ Below w.heap.size w wr ∧ wr.heap[w.heap.size]? = some (.cells Tryd.zeroCells66 66 (0, 0)) ∧ wr.heap[w.heap.size + 1]? = some (.cells (boolCells (hasB (ss.take j))) 66 (0, 0))) (fun i _ => ss.length - (intOf i).toNat)
  case atStart =>
    refine ⟨0, Nat.zero_le _, rfl, ((Below.refl _ _).alloc (Nat.le_refl _) _).alloc (by simp) _, heap_alloc2_old _ _ _, ?_⟩
    rw [List.take_zero, hasB_nil, ← zeroSet]
    exact heap_alloc2_new _ _ _
  case round =>
    obtain ⟨j, hj, rfl, hbel, hB0, hB1⟩ := hrel
    obtain ⟨wo, rfl⟩ : ∃ wo : World, wo = wr := ⟨_, rfl⟩
    by_cases hlt : j < ss.length
    · obtain ⟨b, off, rfl, hc0⟩ := HV.out j hlt
      have hc := (hbel.cell (p := ⟨b, off + j, none⟩) (lt_of_cell hc0)).trans hc0
      clear hc0
      obtain ⟨s, hs⟩ : ∃ s, s = ss.getD j ByteArray.empty := ⟨_, rfl⟩
      rw [← hs] at hc
      have HS := Hid.mk' hs
      have hss : s.size ≤ 4294967296 := hsz s (by rw [hs, List.getD, List.getElem?_eq_getElem hlt]; exact List.getElem_mem hlt)
      have HB0 := Hid.mk' hB0
      have HB1 := Hid.mk' hB1
      clear hs hB0 hB1 hsz
      go_wp2
      go_loopw [15, 6] (fun i _ wq => ∃ k : Nat, k ≤ s.size ∧ i = .int .i64 k ∧ Below w.heap.size w wq ∧ wq.heap[w.heap.size]? = some (.cells Tryd.zeroCells66 66 (0, 0)) ∧ wq.heap[w.heap.size + 1]? = some (.cells (boolCells fun i => hasB (ss.take j) i || (s.data.toList.take k).any fun c => c.toNat == i) 66 (0, 0))) (fun i _ _ => s.size - (intOf i).toNat)
      case atStart => exact ⟨0, Nat.zero_le _, rfl, hbel, HB0.out, by simpa using HB1.out⟩
      case round =>
        obtain ⟨k, hk, rfl, hbel2, hB0, hB1⟩ := hrel
        by_cases hlt2 : k < s.size
        · have hb256 : s[k].toNat < 256 := s[k].toNat_lt
          have cX := (cell_of_row wr (w.heap.size + 1) s[k].toNat _ _ _ hB1).trans (boolCells_get _ _ hb256)
          have fX := frozen_of_row wr (w.heap.size + 1) s[k].toNat _ _ hB1
          have HB0 := Hid.mk' hB0
          have HB1 := Hid.mk' hB1
          clear hB0 hB1
          have HR : Hid ((wr.setCell ⟨w.heap.size + 1, s[k].toNat, none⟩ (.bool true)).heap[w.heap.size + 1]? = some (.cells (boolCells fun i => hasB (ss.take j) i || (s.data.toList.take (k + 1)).any fun c => c.toNat == i) 66 (0, 0))) := by
            show _ = _
            rw [heap_setCell_same _ _ _ _ _ _ HB1.out, boolCells_set]
            congr 3
            funext i
            rw [any_snoc s k hlt2]
            by_cases h : i = s[k].toNat
            · subst h; simp
            · have h' : (s[k].toNat == i) = false := beq_eq_false_iff_ne.2 (Ne.symm h)
              simp [h, h']
          have HR0 : Hid ((wr.setCell ⟨w.heap.size + 1, s[k].toNat, none⟩ (.bool true)).heap[w.heap.size]? = some (.cells Tryd.zeroCells66 66 (0, 0))) := (heap_setCell_other _ _ _ _ (by simp)).trans HB0.out
          go_wp2
          go_roundw
          case rel => exact ⟨k + 1, by omega, by go_num, hbel2.setCell (p := ⟨w.heap.size + 1, s[k].toNat, none⟩) (by simp) _, HR0.out, HR.out⟩
          case measure => simp [intOf]; omega
        · have ht : s.data.toList.take k = s.data.toList := List.take_of_length_le (by have : s.data.toList.length = s.size := rfl; omega)
          rw [ht] at hB1
          have HB0 := Hid.mk' hB0
          have HB1 := Hid.mk' hB1
          clear hB0 hB1 ht
          go_wp2
          go_roundw
          case rel => exact ⟨j + 1, by omega, by go_num, hbel2, HB0.out, by rw [take_snocB hlt, ← HS.out, hasB_snoc]; exact HB1.out⟩
          case measure => simp [intOf]; omega
    · have ht : ss.take j = ss := List.take_of_length_le (by omega)
      rw [ht] at hB1
      have hq := setRow_heap wo w.heap.size _ (boolCells (hasB ss)) _ _ hB0
      have hbq : Below w.heap.size w (wo.setRow w.heap.size (boolCells (hasB ss))) := hbel.trans ⟨rfl, rfl, rfl, by simp [World.setRow], fun k hk => setRow_other wo w.heap.size k _ (by omega)⟩
      go_wp2_with (first | (refine wpList_load_row rfl 66 _ rfl (w.heap.size + 1) rfl _ _ _ _ hB1 Tryd.underlying66 rfl (by rw [boolCells_size]; exact Tryd.sizeSet) ?_) | (refine wpList_store_row rfl 66 _ _ rfl w.heap.size (boolCells (hasB ss)) rfl rfl _ _ hB0 (by rw [boolCells_size]; exact Tryd.sizeSet) (by rw [boolCells_size, zeroSet, boolCells_size]) (boolCells_all _) ?_))
      refine bodyPost_ret (v := .agg (boolCells (hasB ss))) (results_cell_row Tryd.results34 _ _ w.heap.size _ _ _ _ rfl hq Tryd.underlying66 rfl (by rw [boolCells_size]; exact Tryd.sizeSet)) rfl ⟨rfl, hbq⟩
end Go.Proofs.YteflghhpdikidaaDoor

/-
  What is proved here: a member as a variable of its own; what jsonval.isTwice answers.
-/
import Derived.Test.YtjjoedkigjekcaaGreatDoorK3
import Derived.Test.YtjjoedkigjekcaaGreatDoorShelf
import Derived.Deep.OwnRows
import Derived.Lib.OwnBridge
import Derived.Lib.AppendIntMem
namespace Go.Proofs.YtjjoedkigjekcaaGreatDoor
open Go.RowKit Go.Shelf

/-- a member as a variable of its own -/
theorem mem_box (w : World) (n c0 c1 c2 c3 : Value) : ∃ W0, w.alloc (.cells #[n, c0, c1, c2, c3] 43) = W0 ∧ W0.heap.size = w.heap.size + 1 ∧ Below w.heap.size w W0 ∧ W0.cell? ⟨w.heap.size, 0, none⟩ = some n ∧ W0.cell? ⟨w.heap.size, 1, none⟩ = some c0 ∧ W0.cell? ⟨w.heap.size, 2, none⟩ = some c1 ∧ W0.cell? ⟨w.heap.size, 3, none⟩ = some c2 ∧ W0.cell? ⟨w.heap.size, 4, none⟩ = some c3 := by
  refine ⟨_, rfl, by simp, (Below.refl _ w).alloc (Nat.le_refl _) _, ?_, ?_, ?_, ?_, ?_⟩
  all_goals rw [World.cell?_alloc_new]; rfl
/-- a member as it lies, its value's cells by their kinds -/
theorem memb_full {w : World} {b : Option Addr} {m : List (List UInt8 × J)} (h : ∀ j x, m[j]? = some x → ∃ bb ob ds, b = some ⟨bb, ob, none⟩ ∧ CellsAt w bb (ob + j * 5) (.string (strL x.1) :: ds) 5 ∧ VJ w x.2 ds) {j : Nat} {x : List UInt8 × J} (hj : m[j]? = some x) :
    ∃ (bb ob : Nat) (k : Int) (S : ByteArray) (a : Option Addr) (la ca : Nat) (a' : Option Addr) (lb cb : Nat), b = some ⟨bb, ob, none⟩ ∧ ∀ W, Below w.heap.size w W → (W.cell? ⟨bb, ob + j * 5, none⟩ = some (.string (strL x.1)) ∧ W.cell? ⟨bb, ob + j * 5 + 1, none⟩ = some (.int .i64 k) ∧ W.cell? ⟨bb, ob + j * 5 + 2, none⟩ = some (.string S) ∧ W.cell? ⟨bb, ob + j * 5 + 3, none⟩ = some (.slice a la ca) ∧ W.cell? ⟨bb, ob + j * 5 + 4, none⟩ = some (.slice a' lb cb)) ∧ VJ W x.2 [.int .i64 k, .string S, .slice a la ca, .slice a' lb cb] := by
  obtain ⟨bb, ob, c0, c1, c2, c3, e, hh⟩ := memb_at h hj
  obtain ⟨-, hv⟩ := hh w (Below.refl _ _)
  obtain ⟨a, ca, a', cb, hc⟩ := hv.cells
  simp only [List.cons.injEq, and_true] at hc
  obtain ⟨rfl, rfl, rfl, rfl⟩ := hc
  exact ⟨bb, ob, _, _, a, _, ca, a', _, cb, e, hh⟩
/-- an element as it lies, by its cells' kinds -/
theorem elem_full {w : World} {a : Option Addr} {l : List J} (h : ∀ j t, l[j]? = some t → ∃ ba oa ds, a = some ⟨ba, oa, none⟩ ∧ CellsAt w ba (oa + j * 4) ds 4 ∧ VJ w t ds) {j : Nat} {t : J} (hj : l[j]? = some t) :
    ∃ (ba oa : Nat) (k : Int) (S : ByteArray) (p : Option Addr) (la ca : Nat) (p' : Option Addr) (lb cb : Nat), a = some ⟨ba, oa, none⟩ ∧ ∀ W, Below w.heap.size w W → (W.cell? ⟨ba, oa + j * 4, none⟩ = some (.int .i64 k) ∧ W.cell? ⟨ba, oa + j * 4 + 1, none⟩ = some (.string S) ∧ W.cell? ⟨ba, oa + j * 4 + 2, none⟩ = some (.slice p la ca) ∧ W.cell? ⟨ba, oa + j * 4 + 3, none⟩ = some (.slice p' lb cb)) ∧ VJ W t [.int .i64 k, .string S, .slice p la ca, .slice p' lb cb] := by
  obtain ⟨ba, oa, c0, c1, c2, c3, e, hh⟩ := elem_at h hj
  obtain ⟨-, hv⟩ := hh w (Below.refl _ _)
  obtain ⟨p, ca, p', cb, hc⟩ := hv.cells
  simp only [List.cons.injEq, and_true] at hc
  obtain ⟨rfl, rfl, rfl, rfl⟩ := hc
  exact ⟨ba, oa, _, _, p, _, ca, p', _, cb, e, hh⟩
/-- the block B holds these cells -/
def Blk (w : World) (B : Nat) (T : TypeId) (xs : List Value) : Prop := w.heap[B]? = some (.cells xs.toArray T (0, 0))
theorem Blk.lt {w : World} {B : Nat} {T : TypeId} {xs : List Value} (h : Blk w B T xs) : B < w.heap.size := by
  rcases Nat.lt_or_ge B w.heap.size with g | g
  · exact g
  · unfold Blk at h; rw [Array.getElem?_eq_none g] at h; cases h
theorem Blk.cell {w : World} {B : Nat} {T : TypeId} {xs : List Value} (h : Blk w B T xs) (o : Nat) {v : Value} (hv : xs[o]? = some v) : w.cell? ⟨B, o, none⟩ = some v := by
  unfold Blk at h
  simp [World.cell?, h, hv]
theorem Blk.free {w : World} {B : Nat} {T : TypeId} {xs : List Value} (h : Blk w B T xs) (o : Nat) : w.frozen? ⟨B, o, none⟩ = false := by
  unfold Blk at h
  simp [World.frozen?, h]
theorem Blk.set {w : World} {B : Nat} {T : TypeId} {xs : List Value} (h : Blk w B T xs) (o : Nat) (u : Value) : Blk (w.setCell ⟨B, o, none⟩ u) B T (xs.set o u) := by
  have hlt := h.lt
  unfold Blk at *
  have h' : w.heap[B] = .cells xs.toArray T (0, 0) := by simpa [Array.getElem?_eq_getElem hlt] using h
  show (w.heap.modify B _)[B]? = _
  rw [Array.getElem?_eq_getElem (by simpa using hlt), Array.getElem_modify_self, h']
  simp
theorem Blk.below {w w' : World} {B : Nat} {T : TypeId} {xs : List Value} (h : Blk w B T xs) (hb : Below w.heap.size w w') : Blk w' B T xs := (hb.block B h.lt).trans h
theorem Blk.new (w : World) (T : TypeId) (xs : List Value) : Blk (w.alloc (.cells xs.toArray T)) w.heap.size T xs := Array.getElem?_push_size
/-- names, k of them laid -/
def rowS (ns : List (List UInt8)) (k : Nat) : List Value := (List.range ns.length).map fun i => .string (strL (if i < k then ns.getD i [] else []))
theorem rowS_at {ns : List (List UInt8)} {k i : Nat} (h : i < ns.length) : (rowS ns k)[i]? = some (.string (strL (if i < k then ns.getD i [] else []))) := by simp [rowS, h]
theorem rowS_set (ns : List (List UInt8)) (k : Nat) : (rowS ns k).set k (.string (strL (ns.getD k []))) = rowS ns (k + 1) := by
  apply List.ext_getElem?
  intro i
  rw [List.getElem?_set]
  by_cases hi : i < ns.length
  · rw [rowS_at hi, rowS_at hi]
    have hl : (rowS ns k).length = ns.length := by simp [rowS]
    by_cases e : k = i
    · subst e; simp [hl, hi]
    · rw [if_neg e]
      congr 3
      by_cases g : i < k
      · rw [if_pos g, if_pos (by omega)]
      · rw [if_neg g, if_neg (by omega)]
  · have h1 : (rowS ns k)[i]? = none := by simp [rowS]; omega
    have h2 : (rowS ns (k + 1))[i]? = none := by simp [rowS]; omega
    rw [h1, h2]
    have hl : (rowS ns k).length = ns.length := by simp [rowS]
    split
    · rename_i e; subst e; rw [if_neg (by omega)]
    · rfl
theorem rowS_zero (ns : List (List UInt8)) : madeCells #[.string ⟨#[]⟩] ns.length = (rowS ns 0).toArray := by
  apply Array.ext'
  apply List.ext_getElem?
  intro i
  have e : (rowS ns 0).toArray.toList = rowS ns 0 := rfl
  rw [e, Array.getElem?_toList]
  by_cases hi : i < ns.length
  · rw [rowS_at hi]; simp [madeCells, hi, Nat.mod_one]; rfl
  · have h2 : (rowS ns 0)[i]? = none := by simp [rowS]; omega
    rw [h2]; simp [madeCells]; omega
theorem rowS_holds {W : World} {g : Nat} {T : TypeId} {ns : List (List UInt8)} (h : Blk W g T (rowS ns ns.length)) : Go.Sort.Holds Go.Proofs.encStr W g 0 ns.toArray := fun j hj => by
  have hj : j < ns.length := by simpa using hj
  refine ⟨?_, h.free _⟩
  rw [Nat.zero_add]
  refine h.cell j ?_
  rw [rowS_at hj, if_pos hj]
  simp only [Go.Proofs.encStr, strL]
  rw [getElem!_pos ns.toArray j (by simpa using hj)]
  simp [List.getD, hj]
theorem Tryz.infoText : (Tryz.prog.info? 9).map (fun i => (i.zero, i.size, i.bytes)) = some (some (.string ⟨#[]⟩), 1, 16) := by kernel_rfl
set_option maxRecDepth 20000 in
set_option maxHeartbeats 4000000 in
theorem isTwice_any (m : List (List UInt8 × J)) (b : Option Addr) (cb : Nat) (w : World) (hM : MemAt w b m) (hml : m.length ≤ 4000) :
    Calls Tryz.prog 74 #[.slice b m.length cb] w fun e w' => e = .returned (.bool (decide (¬ (m.map fun x => x.1).Nodup))) ∧ Below w.heap.size w w' := by
  have hlen : (m.map fun x => x.1).length = m.length := by simp
  have hmk := run_make_row' (P := Tryz.prog) 124 9 (.string ⟨#[]⟩) 16 Tryz.underlying124 Tryz.infoText rfl .i64 .i64 m.length (by omega) (by omega)
  have HZ := rowS_zero (m.map fun x => x.1)
  rw [hlen] at HZ
  rw [HZ] at hmk
  have HCN := compact_nodup (m.map fun x => x.1)
  rw [hlen] at HCN
  have HMM : Hid (∀ (j : Nat) (x : List UInt8 × J), m[j]? = some x → ∃ (bb ob : Nat) (k : Int) (S : ByteArray) (a : Option Addr) (la ca : Nat) (a' : Option Addr) (lb cb : Nat), b = some ⟨bb, ob, none⟩ ∧ (m.map fun x => x.1).getD j [] = x.1 ∧ ∀ W, Below w.heap.size w W → (W.cell? ⟨bb, ob + j * 5, none⟩ = some (.string (strL x.1)) ∧ W.cell? ⟨bb, ob + j * 5 + 1, none⟩ = some (.int .i64 k) ∧ W.cell? ⟨bb, ob + j * 5 + 2, none⟩ = some (.string S) ∧ W.cell? ⟨bb, ob + j * 5 + 3, none⟩ = some (.slice a la ca) ∧ W.cell? ⟨bb, ob + j * 5 + 4, none⟩ = some (.slice a' lb cb))) := fun j x hj => by
    obtain ⟨bb, ob, k, S, a, la, ca, a', lb, cb, e, h⟩ := memb_full hM hj
    exact ⟨bb, ob, k, S, a, la, ca, a', lb, cb, e, by simp [List.getD, hj], fun W hb => (h W hb).1⟩
  generalize hns : (m.map fun x => x.1) = ns at *
  obtain ⟨W1, hW1⟩ : ∃ W1, w.alloc (.cells (rowS ns 0).toArray 9) = W1 := ⟨_, rfl⟩
  have hbk1 : Blk W1 w.heap.size 9 (rowS ns 0) := by rw [← hW1]; exact Blk.new _ _ _
  have hb1 : Below w.heap.size w W1 := by rw [← hW1]; exact (Below.refl _ _).alloc (Nat.le_refl _) _
  have HSR : Hid (∀ W, Blk W w.heap.size 9 (rowS ns ns.length) → Below w.heap.size w W → Calls Tryz.prog 85 #[.slice (some ⟨w.heap.size, 0, none⟩) ns.length m.length] W fun e w' => e = .returned (.tuple #[]) ∧ Below w.heap.size w w' ∧ Go.Sort.Holds Go.Proofs.encStr w' w.heap.size 0 (ns.mergeSort fun x y => decide (x ≤ y)).toArray) := fun W hk hb => by
    have hH := rowS_holds hk
    refine (Tryz.slices_Sort_string w.heap.size 0 m.length ns W hH hk.lt (by omega)).mono ?_
    rintro e w' ⟨rfl, n, os, rfl⟩
    have hlt := hk.lt
    refine ⟨rfl, ?_, ?_⟩
    · have h1 := Lib.below_putRow (enc := Go.Proofs.encStr) (q := n) (d := (ns.mergeSort fun x y => decide (x ≤ y)).toArray) hb (Nat.le_refl w.heap.size)
      exact h1.trans (Lib.below_grow _ _ (by simpa using hb.size) 0 os)
    · refine Go.Sort.holds_grow _ _ _ _ _ _ (by simpa using hlt) ?_
      exact Go.Sort.holds_putRow _ _ _ _ _ _ (Go.Sort.holds_ahead _ _ _ _ _ _ hH) (by simp)
  have HCP : Hid (∀ W, Go.Sort.Holds Go.Proofs.encStr W w.heap.size 0 (ns.mergeSort fun x y => decide (x ≤ y)).toArray → Below w.heap.size w W → Calls Tryz.prog 86 #[.slice (some ⟨w.heap.size, 0, none⟩) m.length m.length] W fun e w' => (∃ k : Nat, e = .returned (.slice (some ⟨w.heap.size, 0, none⟩) k m.length) ∧ Hid (decide (k < m.length) = decide (¬ ns.Nodup))) ∧ Below w.heap.size w w') := fun W hH hb => by
    have hsl : (ns.mergeSort fun x y => decide (x ≤ y)).length = m.length := by rw [List.length_mergeSort, hlen]
    have hc := Tryz.slices_Compact_string w.heap.size 0 m.length (ns.mergeSort fun x y => decide (x ≤ y)) W hH (by omega) (by omega)
    rw [hsl] at hc
    refine hc.mono ?_
    rintro e w' ⟨rfl, q, rfl⟩
    refine ⟨⟨_, rfl, ?_⟩, Lib.below_putRow hb (Nat.le_refl w.heap.size)⟩
    exact decide_eq_decide.2 HCN
  have HLN := Hid.mk' hlen
  have HT : Hid (∀ W W', Below w.heap.size w W → Below W.heap.size W W' → Below w.heap.size w W') := below_tr
  obtain ⟨z, hz⟩ : ∃ z, decide (¬ ns.Nodup) = z := ⟨_, rfl⟩
  rw [hz] at HCP ⊢
  clear hM HZ HCN hns hz hlen
  go_enter Tryz.func74, Tryz.ntmps74
  go_wp2
  go_loopw [4, 5, 11] (fun _ _ x wr => ∃ k : Nat, x = .int .i64 k ∧ k ≤ m.length ∧ Blk wr w.heap.size 9 (rowS ns k) ∧ Below w.heap.size w wr) (fun _ _ x _ => m.length - (intOf x).toNat)
  case atStart => exact ⟨0, rfl, Nat.zero_le _, hbk1, hb1⟩
  case round =>
    clear hbk1 hb1
    obtain ⟨k, rfl, hk, hbk, hbr⟩ := hrel
    by_cases hlt : k < m.length
    · obtain ⟨x, ht⟩ := get_lt hlt
      obtain ⟨bb, ob, q0, q1, q2, la, ca, q3, lb, cb, rfl, hnk, HX⟩ := HMM.out k x ht
      obtain ⟨g0, g1, g2, g3, g4⟩ := HX _ hbr
      have hset := Hid.mk' (rowS_set ns k)
      rw [hnk] at hset
      have HR := Hid.mk' (rowS_at (ns := ns) (k := k) (i := k) (by rw [HLN.out]; exact hlt))
      generalize strL x.1 = X at *
      obtain ⟨W2, hW2, hsz2, hb2, e0, e1, e2, e3, e4⟩ := mem_box wr (.string X) (.int .i64 q0) (.string q1) (.slice q2 la ca) (.slice q3 lb cb)
      have hbk2 := hbk.below hb2
      have hb3 := HT.out _ _ hbr hb2
      have hcell := hbk2.cell k HR.out
      have hfree := hbk2.free k
      have hbk3 := hbk2.set k (.string X)
      rw [hset.out] at hbk3
      have hb4 : Below w.heap.size w (W2.setCell ⟨w.heap.size, k, none⟩ (.string X)) := hb3.setCell (p := ⟨w.heap.size, k, none⟩) (Nat.le_refl _) _
      clear HMM HX ht hnk hset HR hbk hbr hb2 hb3 hbk2
      go_wp2
      go_roundw
      case rel => exact ⟨k + 1, by go_num, by omega, hbk3, hb4⟩
      case measure => simp [intOf]; omega
    · obtain rfl : k = m.length := by omega
      have HS1 := Hid.mk' (HSR.out wr (by rw [HLN.out]; exact hbk) hbr)
      rw [HLN.out] at HS1
      clear HMM HSR hmk hbk
      go_wp2_with fail
      refine HS1.out.mono ?_
      rintro e w1 ⟨rfl, hb1, hh1⟩
      have HC1 := Hid.mk' (HCP.out w1 hh1 hb1)
      clear HCP hh1 HS1
      go_wp2_with fail
      refine HC1.out.mono ?_
      rintro e w2 ⟨⟨kk, rfl, hkk⟩, hb2⟩
      clear HC1 hb1
      go_wp2
      go_ret
      exact ⟨by rw [← hkk.out]; rfl, hb2⟩
end Go.Proofs.YtjjoedkigjekcaaGreatDoor

/-
  What is proved here: what pct.Escape answers.
-/
import Derived.Test.YteflghhpdikidaaDoorEsc1
import Derived.Deep.RegionHeld3
import Derived.Deep.AppendLies
namespace Go.Proofs.YteflghhpdikidaaDoor
open Go.RowKit

/-- an array of truths, laid in a new variable -/
theorem set_new (w : World) (f : Nat → Bool) : ∃ W : World, W = (w.alloc (.cells Tryd.zeroCells66 66)).setRow w.heap.size (boolCells f) ∧ W.heap[w.heap.size]? = some (.cells (boolCells f) 66 (0, 0)) ∧ Below w.heap.size w W := by
  refine ⟨_, rfl, setRow_heap _ _ _ _ _ _ (heap_alloc_new _ _), ((Below.refl _ _).alloc (Nat.le_refl _) _).trans ⟨rfl, rfl, rfl, by simp [World.setRow], fun k hk => setRow_other _ w.heap.size k _ (by omega)⟩⟩
theorem stay_eq (keep : ByteArray) (i : Nat) (h : i < 256) : (if i = 37 then false else hasB [plainsB, keep] i) = Pct.stay keep.data.toList i := by
  rw [hasB_two, show plainsB.data.toList = Pct.plains from rfl, Pct.plains_any i h, Pct.stay]
  by_cases h37 : i = 37
  · simp [h37]
  · have : (i != 37) = true := by simpa using h37
    simp [h37, this]

def capHex : ByteArray := ⟨#[48, 49, 50, 51, 52, 53, 54, 55, 56, 57, 65, 66, 67, 68, 69, 70]⟩
theorem capHex_all : ∀ n : Nat, n < 16 → capHex.data.toList[n]? = some (Pct.hexD n) := by decide +kernel
theorem capHex_get (i : Nat) (h : i < capHex.size) (n : Nat) (e : i = n) : capHex[i]'h = Pct.hexD n := by
  subst e
  have h1 := capHex_all i h
  have h2 : capHex.data.toList[i]? = some (capHex[i]'h) := by
    rw [List.getElem?_eq_getElem (by simpa using h)]; rfl
  rw [h2] at h1
  exact Option.some.inj h1
theorem cells_drew (w : World) (l : List Value) (t : TypeId) : ∀ j u, l[j]? = some u → (w.alloc (.cells l.toArray t)).drew.cell? ((⟨w.heap.size, 0, none⟩ : Addr).add j) = some u := cells_new w l t
theorem esf_snoc (keep : List UInt8) (s : ByteArray) (k : Nat) (h : k < s.size) : Pct.esf keep (s.data.toList.take (k + 1)) = Pct.esf keep (s.data.toList.take k) ++ Pct.form keep s[k] := by
  have e : s.data.toList.take (k + 1) = s.data.toList.take k ++ [s[k]] := by
    rw [List.take_succ_eq_append_getElem (by simpa using h)]; rfl
  rw [e]; simp [Pct.esf]
theorem conv_bytes {w : World} {B : Nat} {v : Value} {bs : List UInt8} (h : w.ownsRow B 5 1 v bs.length (bs.map fun c => Value.int .u8 c.toNat)) :
    (convert 52 9 v).run Tryd.prog w = .ok (.string ⟨bs.toArray⟩) w := by
  have h' : w.ownsRow B 5 1 v bs.length ((bs.map fun c => (c.toNat : Int)).map (Value.int .u8)) := by rw [List.map_map]; exact h
  have := conv_own (by simp) h'
  rw [this]
  unfold strOfNums
  rw [List.map_map]
  have e : bs.map ((fun n : Int => UInt8.ofNat n.toNat) ∘ fun c : UInt8 => (c.toNat : Int)) = bs := by
    refine (List.map_congr_left (fun c _ => ?_)).trans (List.map_id bs)
    simp
  rw [e]

set_option maxRecDepth 100000 in
set_option maxHeartbeats 1000000 in
theorem escape_any (s keep : ByteArray) (w : World) (hs : s.size ≤ 1073741824) (hk : keep.size ≤ 4294967296) :
    Calls Tryd.prog 16 #[.string s, .string keep] w fun e w' => e = .returned (.string ⟨(Pct.esf keep.data.toList s.data.toList).toArray⟩) ∧ Below w.heap.size w w' := by
  obtain ⟨i0, hi, hz0, hz1, hz2⟩ := info_parts Tryd.infoByte
  have HS := Hid.mk' (setOf_any _ [plainsB, keep] _ (texts_new w [plainsB, keep] 9) (by simp) (by intro s hs; simp at hs; rcases hs with rfl | rfl; decide; exact hk))
  have HST := Hid.mk' (stay_eq keep)
  generalize hasB [plainsB, keep] = F at HS HST
  go_enter Tryd.func16, Tryd.ntmps16
  go_wp2_with fail
  refine HS.out.mono ?_
  rintro e w1 ⟨rfl, hb1⟩
  obtain ⟨W2, hW2, hq, hbq⟩ := set_new w1 F
  have hb2 := (((Below.refl _ w).alloc (Nat.le_refl _) _).trans (hb1.mono (by simp))).trans (hbq.mono (by have := hb1.size; simp at this; omega))
  have cX := (cell_of_row W2 w1.heap.size 37 _ _ _ hq).trans (boolCells_get _ _ (by decide))
  have fX := frozen_of_row W2 w1.heap.size 37 _ _ hq
  have HW2 := Hid.mk' hW2
  have HQ := Hid.mk' hq
  have HB2 := Hid.mk' hb2
  have HBS : Hid (w.heap.size ≤ w1.heap.size) := by have := hb1.size; simp at this; exact (by omega : w.heap.size ≤ w1.heap.size)
  clear hW2 hq hb2 hb1 hbq
  go_wp2_with (refine wpList_store_row rfl 66 _ _ rfl w1.heap.size (boolCells F) rfl rfl _ _ (heap_alloc_new _ _) (by rw [boolCells_size]; exact Tryd.sizeSet) (by rw [boolCells_size, zeroSet, boolCells_size]) (boolCells_all _) ?_; rw [← HW2.out])
  have hq3 : (W2.setCell ⟨w1.heap.size, 37, none⟩ (.bool false)).heap[w1.heap.size]? = some (.cells (boolCells fun i => if i = 37 then false else F i) 66 (0, 0)) := by
    rw [heap_setCell_same _ _ _ _ _ _ HQ.out, boolCells_set]
  have hB : w.heap.size ≤ w1.heap.size := HBS.out
  have hb3 : Below w.heap.size w (W2.setCell ⟨w1.heap.size, 37, none⟩ (.bool false)) := HB2.out.setCell (p := ⟨w1.heap.size, 37, none⟩) hB _
  generalize W2.setCell ⟨w1.heap.size, 37, none⟩ (.bool false) = W3 at *
  generalize w1.heap.size = B at *
  clear cX fX HW2 HQ HB2 HS
  go_loopw [6, 7, 8, 15] (fun out _ _ i wr => ∃ k : Nat, k ≤ s.size ∧ i = .int .i64 k ∧ wr.ownsRow (B + 1) 5 1 out (Pct.esf keep.data.toList (s.data.toList.take k)).length ((Pct.esf keep.data.toList (s.data.toList.take k)).map fun c => Value.int .u8 c.toNat) ∧ Below w.heap.size w wr ∧ wr.heap[B]? = some (.cells (boolCells fun i => if i = 37 then false else F i) 66 (0, 0))) (fun _ _ _ i _ => s.size - (intOf i).toNat)
  case atStart => exact ⟨0, Nat.zero_le _, rfl, World.ownsRow_nil _ _ _ _, hb3, hq3⟩
  case round =>
    clear hb3 hq3
    obtain ⟨k, hk, rfl, hown, hbel, hq⟩ := hrel
    have hlen := Pct.esf_len keep.data.toList (s.data.toList.take k)
    have htl : (s.data.toList.take k).length ≤ k := List.length_take_le _ _
    by_cases hlt : k < s.size
    · have hb256 : s[k].toNat < 256 := s[k].toNat_lt
      have hst := HST.out s[k].toNat hb256
      have cX := (cell_of_row wr B s[k].toNat _ _ _ hq).trans (boolCells_get _ _ hb256)
      rw [hst] at cX
      have hBlt := lt_of_block hq
      have HQ := Hid.mk' hq
      have HE : Hid (Pct.esf keep.data.toList (s.data.toList.take (k + 1)) = Pct.esf keep.data.toList (s.data.toList.take k) ++ Pct.form keep.data.toList s[k]) := esf_snoc keep.data.toList s k hlt
      generalize Pct.esf keep.data.toList (s.data.toList.take k) = bs at *
      clear hq hst
      cases hy : Pct.stay keep.data.toList s[k].toNat
      · have HF : Hid (Pct.form keep.data.toList s[k] = [37, Pct.hexD (s[k].toNat / 16), Pct.hexD (s[k].toNat % 16)]) := by
          show _ = _
          unfold Pct.form; rw [hy]; rfl
        rw [hy] at cX
        clear hy
        go_wp2
        have hand : bits .and .u8 (s[k].toNat : Int) 15 = (s[k].toNat : Int) % 16 := bits_mask .u8 8 (by decide) wraps_u8 4 (by decide) _ (by omega) (by omega)
        have hx1 : ((s[k].toNat : Int) / 16).toNat < capHex.size := by have : capHex.size = 16 := rfl; omega
        have hx2 : ((s[k].toNat : Int) % 16).toNat < capHex.size := by have : capHex.size = 16 := rfl; omega
        have HX1 : Hid ((capHex[((s[k].toNat : Int) / 16).toNat]'hx1) = Pct.hexD (s[k].toNat / 16)) := capHex_get _ hx1 _ (by omega)
        have HX2 : Hid ((capHex[((s[k].toNat : Int) % 16).toNat]'hx2) = Pct.hexD (s[k].toNat % 16)) := capHex_get _ hx2 _ (by omega)
        have HOD := Hid.mk' (hown.alloc (.cells #[.int .u8 37, .int .u8 ((ByteArray.mk #[48, 49, 50, 51, 52, 53, 54, 55, 56, 57, 65, 66, 67, 68, 69, 70])[((s[k].toNat : Int) / 16).toNat]'hx1).toNat, .int .u8 ((ByteArray.mk #[48, 49, 50, 51, 52, 53, 54, 55, 56, 57, 65, 66, 67, 68, 69, 70])[((s[k].toNat : Int) % 16).toNat]'hx2).toNat] 5)).drew
        have HND := Hid.mk' (cells_drew wr [.int .u8 37, .int .u8 ((ByteArray.mk #[48, 49, 50, 51, 52, 53, 54, 55, 56, 57, 65, 66, 67, 68, 69, 70])[((s[k].toNat : Int) / 16).toNat]'hx1).toNat, .int .u8 ((ByteArray.mk #[48, 49, 50, 51, 52, 53, 54, 55, 56, 57, 65, 66, 67, 68, 69, 70])[((s[k].toNat : Int) % 16).toNat]'hx2).toNat] 5)
        have H1 : Hid (∀ u ∈ [Value.int .u8 37, .int .u8 ((ByteArray.mk #[48, 49, 50, 51, 52, 53, 54, 55, 56, 57, 65, 66, 67, 68, 69, 70])[((s[k].toNat : Int) / 16).toNat]'hx1).toNat, .int .u8 ((ByteArray.mk #[48, 49, 50, 51, 52, 53, 54, 55, 56, 57, 65, 66, 67, 68, 69, 70])[((s[k].toNat : Int) % 16).toNat]'hx2).toNat], u.oneCell' = true) := by
          intro u hu; simp at hu; rcases hu with rfl | rfl | rfl <;> rfl
        go_region_held3 (fun _ => True) (trivial) ((refine step_append_lies _ (by rfl) _ _ 52 (by rfl) (B + 1) 5 i0 (.int .u8 0) 1 1 Tryd.underlying52 hi hz0 hz1 hz2 rfl (by omega) u6 bs.length (bs.map fun c => Value.int .u8 c.toNat) (by rfl) HOD.out ⟨wr.heap.size, 0, none⟩ 3 3 [.int .u8 37, .int .u8 ((ByteArray.mk #[48, 49, 50, 51, 52, 53, 54, 55, 56, 57, 65, 66, 67, 68, 69, 70])[((s[k].toNat : Int) / 16).toNat]'hx1).toNat, .int .u8 ((ByteArray.mk #[48, 49, 50, 51, 52, 53, 54, 55, 56, 57, 65, 66, 67, 68, 69, 70])[((s[k].toNat : Int) % 16).toNat]'hx2).toNat] (by rfl) (by rfl) HND.out H1.out (by omega) (by unfold maxLen; omega) (by omega) (by simp; omega) (wr.heap.size + 1) (by simp) ?_; intro g cap w2 hown' hgrow hat hlt'))
        all_goals
          have R2 := (hgrow.block B (by simp; omega) (fun e => by have := (hown.lt B e.symm).1; omega)).trans ((Below.heap_alloc _ _ _ hBlt).trans HQ.out)
          have R1 := ((hbel.alloc hbel.size _).drew).grown hgrow (by have := hbel.size; simp; omega) (fun j hj => by have := (hown.lt j hj).1; omega)
          clear hgrow hown hat hlt'
          go_wp2
          go_roundw
          case rel => exact ⟨k + 1, by omega, by go_num, by rw [HE.out, HF.out, ← HX1.out, ← HX2.out]; unfold capHex; simpa using hown', R1, R2⟩
          case measure => simp [intOf]; omega
      · have HF : Hid (Pct.form keep.data.toList s[k] = [s[k]]) := by
          show _ = _
          unfold Pct.form; rw [hy]; rfl
        rw [hy] at cX
        clear hy
        go_wp2_with (at_builtin; refine wpList_append_own _ rfl _ _ 52 rfl (B + 1) 5 i0 (.int .u8 0) 1 1 Tryd.underlying52 hi hz0 hz1 hz2 rfl (by decide) _ _ _ rfl (hown.alloc _) ⟨wr.heap.size, 0, none⟩ 1 1 [.int .u8 s[k].toNat] rfl rfl (cell_one_new _ _ _) (by intro u hu; simp at hu; subst hu; rfl) (by unfold maxLen; omega) (by omega) (by simp; omega) ?_; intro v' w2 hown' hgrow _)
        have R2 := (hgrow.block B (by simp; omega) (fun e => by have := (hown.lt B e.symm).1; omega)).trans ((Below.heap_alloc _ _ _ hBlt).trans HQ.out)
        have R1 := (hbel.alloc hbel.size _).grown hgrow (by have := hbel.size; simp; omega) (fun j hj => by have := (hown.lt j hj).1; omega)
        clear hgrow hown
        go_roundw
        case rel => exact ⟨k + 1, by omega, by go_num, by rw [HE.out, HF.out]; simpa using hown', R1, R2⟩
        case measure => simp [intOf]; omega
    · have ht : s.data.toList.take k = s.data.toList := List.take_of_length_le (by have : s.data.toList.length = s.size := rfl; omega)
      rw [ht] at hown
      have hconv := conv_bytes hown
      go_wp2
      go_ret
      exact ⟨rfl, hbel⟩
end Go.Proofs.YteflghhpdikidaaDoor

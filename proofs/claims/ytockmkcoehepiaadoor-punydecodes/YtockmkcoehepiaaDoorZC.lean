/-
  What is proved here: what strings.IndexFunc and strings.LastIndexByte answer in package puny; a text's runes where all bytes are plain; what puny's decoder does with the runes that are written as they are.
-/
import Derived.Test.YtockmkcoehepiaaDoorZB0
import Derived.Test.YtockmkcoehepiaaDoorShelf
import Derived.Laws.IdiomStrings
import Derived.Laws.RangeAny
import Derived.Laws.RangeString
namespace Go.Proofs.YtockmkcoehepiaaDoor
open Go.RowKit Go.Shelf

/-- the place of the first byte, from the k-th on, that isn't plain, or -1 -/
def highFrom (s : ByteArray) : Nat → Nat → Int
  | 0, _ => -1
  | f + 1, k => if h : k < s.size then (if 128 ≤ (s[k]'h).toNat then (k : Int) else highFrom s f (k + 1)) else -1
def highAt (s : ByteArray) : Int := highFrom s s.size 0
theorem high_spec (s : ByteArray) : ∀ (f k : Nat), s.size ≤ k + f → (highFrom s f k = -1 ∧ ∀ j, k ≤ j → ∀ (h : j < s.size), (s[j]'h).toNat < 128) ∨ (∃ i : Nat, highFrom s f k = i ∧ k ≤ i ∧ ∃ h : i < s.size, 128 ≤ (s[i]'h).toNat ∧ ∀ j, k ≤ j → ∀ (hj : j < i), (s[j]'(by omega)).toNat < 128) := by
  intro f
  induction f with
  | zero => intro k hk; exact .inl ⟨rfl, fun j h1 h2 => by omega⟩
  | succ f ih =>
    intro k hk
    unfold highFrom
    by_cases h : k < s.size
    · rw [dif_pos h]
      by_cases g : 128 ≤ (s[k]'h).toNat
      · rw [if_pos g]
        exact .inr ⟨k, rfl, Nat.le_refl _, h, g, fun j h1 h2 => by omega⟩
      · rw [if_neg g]
        rcases ih (k + 1) (by omega) with ⟨e, hn⟩ | ⟨i, e, hi, hs, hg, hn⟩
        · refine .inl ⟨e, fun j h1 h2 => ?_⟩
          rcases Nat.eq_or_lt_of_le h1 with rfl | q
          · omega
          · exact hn j q h2
        · refine .inr ⟨i, e, by omega, hs, hg, fun j h1 h2 => ?_⟩
          rcases Nat.eq_or_lt_of_le h1 with rfl | q
          · omega
          · exact hn j q h2
    · rw [dif_neg h]
      exact .inl ⟨rfl, fun j h1 h2 => by omega⟩
theorem idx_high (s : ByteArray) : ∀ (f k : Nat), Lib.idxFuncFrom (fun x => decide (128 ≤ x)) true s f k = highFrom s f k := by
  intro f
  induction f with
  | zero => intro k; rfl
  | succ f ih =>
    intro k
    unfold Lib.idxFuncFrom highFrom
    by_cases h : k < s.size
    · rw [if_pos h, dif_pos h]
      by_cases g : 128 ≤ (s[k]'h).toNat
      · rw [if_pos g, if_pos (by simpa using (decode_high s k h g).1)]
      · have e := decode_ascii s k h (by omega)
        rw [if_neg g, e, if_neg (by simp; omega)]
        exact ih (k + 1)
    · rw [if_neg h, dif_neg h]
theorem strIndexFunc_any (s : ByteArray) (w : World) :
    Calls Tryd.prog 57 #[.string s, .func (.func 58) #[] #[]] w fun e w' => e = .returned (.int .i64 (highAt s)) ∧ Below w.heap.size w w' := by
  have hF : ∀ args w, (callFunc 58 args).run Tryd.prog w = .ok (.enter 58 args) w := enters_of Tryd.func58 (by kernel_rfl) rfl
  have h := Tryd.strings_IndexFunc_grows 58 #[] hF (fun x => decide (128 ≤ x)) s w (fun W x hx hb => by
    refine (notPlain_any (x : Int) W).mono ?_
    rintro e w' ⟨rfl, rfl⟩
    refine ⟨ret_bool ?_, Below.refl _ _⟩
    rw [decide_eq_decide]
    omega)
  have e : Lib.idxFunc (fun x => decide (128 ≤ x)) true s = highAt s := idx_high s s.size 0
  rw [e] at h
  exact h
/-- from where on numbers are read -/
def fromOf (s : ByteArray) : Nat := if 0 < Lib.lastIndexByte s 45 then (Lib.lastIndexByte s 45).toNat + 1 else 0
theorem data_at (s : ByteArray) (k : Nat) (h : k < s.size) : ((s.data[k]!).toNat : Int) = (bytesM s).getD k 0 := by
  have h' : k < s.data.size := h
  rw [bytes_at s k h, getElem!_pos s.data k h']
  rfl
theorem from_is (s : ByteArray) : IsFrom (bytesM s) (fromOf s) := by
  have hl := bytes_len s
  unfold IsFrom fromOf
  rcases Lib.lastIndexByte_spec s 45 with ⟨e, hn⟩ | ⟨i, hi, e, hc, hn⟩
  · rw [e, if_neg (by omega)]
    refine ⟨Nat.zero_le _, .inl rfl, fun i h1 _ h2 => ?_⟩
    rw [← data_at s i (by omega)]
    exact hn i (by omega)
  · rw [e]
    by_cases h0 : 0 < (i : Int)
    · rw [if_pos h0]
      refine ⟨by omega, .inr ⟨by omega, ?_⟩, fun j _ h2 h3 => ?_⟩
      · rw [show ((i : Int).toNat + 1 - 1) = i by omega, ← data_at s i hi]
        exact hc
      · rw [← data_at s j (by omega)]
        exact hn j (by omega) (by omega)
    · rw [if_neg h0]
      refine ⟨Nat.zero_le _, .inl rfl, fun j h1 h2 h3 => ?_⟩
      rw [← data_at s j (by omega)]
      exact hn j (by omega) (by omega)
/-- a text of plain bytes, as runes -/
theorem runes_plain (s : ByteArray) (hs : ∀ j (h : j < s.size), (s[j]'h).toNat < 128) : ∀ (f k : Nat) (acc : Array Value), s.size ≤ k + f → Conv.runesFrom s f k acc = acc ++ (cellsOf ((bytesM s).drop k)).toArray := by
  intro f
  induction f with
  | zero =>
    intro k acc hk
    rw [List.drop_of_length_le (by rw [bytes_len]; omega)]
    simp [Conv.runesFrom, cellsOf]
  | succ f ih =>
    intro k acc hk
    unfold Conv.runesFrom
    by_cases h : k < s.size
    · rw [if_pos h, decode_ascii s k h (hs k h)]
      show Conv.runesFrom s f (k + 1) (acc.push (.int .i32 (Int.ofNat (s[k]'h).toNat))) = _
      rw [ih (k + 1) _ (by omega), bytes_drop s k h]
      simp [cellsOf]
    · rw [if_neg h, List.drop_of_length_le (by rw [bytes_len]; omega)]
      simp [cellsOf]
theorem bytes_take (s : ByteArray) (k : Nat) : bytesM (s.extract 0 k) = (bytesM s).take k := by
  unfold bytesM
  rw [ByteArray.data_extract, Array.toList_extract]
  simp [List.map_take]
theorem plain_own (w : World) (t : List Int) (cap : Nat) (hc : t.length ≤ cap) (hm : cap ≤ maxLen) (B : Nat) (hB : B ≤ w.heap.size) (x : Array Value) (hx : x = (cellsOf t).toArray ++ Array.replicate (cap - t.length) (.int .i32 0)) :
    (w.alloc (.cells x 21)).ownsRow B 21 1 (.slice (some ⟨w.heap.size, 0, none⟩) t.length cap) t.length (cellsOf t) := by
  subst hx
  refine ⟨by rw [cellsOf_len, Nat.mul_one], .inr ⟨w.heap.size, cap, _, rfl, hB, Array.getElem?_push_size, hc, hm, ?_, ?_⟩⟩
  · simp [cellsOf]; omega
  · rw [Nat.mul_one, Array.toList_append, List.toList_toArray, List.take_append_of_le_length (by rw [cellsOf_len]; exact Nat.le_refl _), List.take_of_length_le (by rw [cellsOf_len]; exact Nat.le_refl _)]
set_option maxRecDepth 100000 in
set_option maxHeartbeats 2000000 in
theorem plainD_any (B : Nat) (s : ByteArray) (w : World) (hs : s.size ≤ 120) (hp : ∀ j (h : j < s.size), (s[j]'h).toNat < 128) (h : Blk w B 86 [.int .i64 72, .bool false, .int .i64 0, .int .i64 0, .int .i64 0, .string s, .int .i64 0, .slice none 0 0]) :
    Calls Tryd.prog 59 #[.pointer (some ⟨B, 0, none⟩)] w fun e w' => e = .returned (.tuple #[]) ∧ (∃ v, DecAt w' B s (fromOf s) ⟨128, 0, 72, true, (bytesM s).take (fromOf s - 1)⟩ v) ∧ Below B w w' := by
  have HL : Hid (∀ W, Calls Tryd.prog 107 #[.string s, .int .u8 45] W fun e w' => e = .returned (.int .i64 (Lib.lastIndexByte s 45)) ∧ W = w') := fun W => (Tryd.strings_LastIndexByte s 45 (by omega) W).mono (fun e w' h => ⟨h.1, h.2.symm⟩)
  have hls : -1 ≤ Lib.lastIndexByte s 45 ∧ Lib.lastIndexByte s 45 < s.size := by
    rcases Lib.lastIndexByte_spec s 45 with ⟨e, -⟩ | ⟨i, hi, e, -, -⟩ <;> omega
  have HFR : Hid (fromOf s = if 0 < Lib.lastIndexByte s 45 then (Lib.lastIndexByte s 45).toNat + 1 else 0) := rfl
  have hBs := h.lt
  have c5 := h.cell 5 rfl
  have c6 := h.cell 6 rfl
  have c7 := h.cell 7 rfl
  have f6 := h.free 6
  have f7 := h.free 7
  generalize Lib.lastIndexByte s 45 = L at *
  generalize fromOf s = F at *
  obtain ⟨hl0, hl1⟩ := hls
  by_cases hL : 0 < L
  · rw [if_pos hL] at HFR
    obtain ⟨k, rfl⟩ : ∃ k : Nat, L = k := ⟨L.toNat, by omega⟩
    have hkd : decide (0 < (k : Int)) = true := decide_eq_true hL
    have hk1 : (k : Int) ≤ (s.size : Int) := by omega
    have hk0 : (0 : Int) ≤ (k : Int) := by omega
    have hxs : (s.extract 0 k).size = k := by simp [ByteArray.size_extract]; omega
    have hrn : Conv.runesFrom (s.extract 0 k) (s.extract 0 k).size 0 #[] = (cellsOf ((bytesM s).take k)).toArray := by
      rw [runes_plain (s.extract 0 k) (fun j hj => by
        have hj' : j < k := by omega
        have := hp j (by omega)
        rw [ByteArray.getElem_extract]
        simpa using this) _ 0 #[] (by omega), List.drop_zero, bytes_take]
      simp
    have htl : ((bytesM s).take k).length = k := by rw [List.length_take, bytes_len]; omega
    have hcv := run_runes_of_string w 9 24 21 (s.extract 0 k) Tryd.underlying9 Tryd.underlying24 Tryd.underlying21 (by rw [hrn]; simp [cellsOf_len, htl]; omega)
    rw [hrn] at hcv
    simp only [List.size_toArray, cellsOf_len, htl] at hcv
    have hcg := grownCap_ge w k 0 21
    have hcm : grownCap w k 0 21 ≤ maxLen := grownCap_le_maxLen w _ _ _ (by unfold maxLen; omega)
    generalize grownCap w k 0 21 = cp at *
    have HO2 : Hid ((((w.setCell ⟨B, 7, none⟩ (.slice (some ⟨w.heap.size, 0, none⟩) k cp)).setCell ⟨B, 6, none⟩ (.int .i64 ((k : Int) + 1))).alloc (.cells ((cellsOf ((bytesM s).take k)).toArray ++ Array.replicate (cp - k) (.int .i32 0)) 21)).ownsRow (B + 1) 21 1 (.slice (some ⟨w.heap.size, 0, none⟩) k cp) k (cellsOf ((bytesM s).take k))) := by
      have := plain_own ((w.setCell ⟨B, 7, none⟩ (.slice (some ⟨w.heap.size, 0, none⟩) k cp)).setCell ⟨B, 6, none⟩ (.int .i64 ((k : Int) + 1))) ((bytesM s).take k) cp (by omega) hcm (B + 1) (by rw [World.size_setCell, World.size_setCell]; omega) _ rfl
      rw [htl, World.size_setCell, World.size_setCell] at this
      exact this
    have HK2 : Hid (Blk (((w.setCell ⟨B, 7, none⟩ (.slice (some ⟨w.heap.size, 0, none⟩) k cp)).setCell ⟨B, 6, none⟩ (.int .i64 ((k : Int) + 1))).alloc (.cells ((cellsOf ((bytesM s).take k)).toArray ++ Array.replicate (cp - k) (.int .i32 0)) 21)) B 86 [.int .i64 72, .bool false, .int .i64 0, .int .i64 0, .int .i64 0, .string s, .int .i64 ((k : Int) + 1), .slice (some ⟨w.heap.size, 0, none⟩) k cp]) := ((h.set 7 _).set 6 _).alloc _
    have HB2 : Hid (Below B w (((w.setCell ⟨B, 7, none⟩ (.slice (some ⟨w.heap.size, 0, none⟩) k cp)).setCell ⟨B, 6, none⟩ (.int .i64 ((k : Int) + 1))).alloc (.cells ((cellsOf ((bytesM s).take k)).toArray ++ Array.replicate (cp - k) (.int .i32 0)) 21))) := (((Below.refl B w).setCell (p := ⟨B, 7, none⟩) (Nat.le_refl B) _).setCell (p := ⟨B, 6, none⟩) (Nat.le_refl B) _).alloc (by rw [World.size_setCell, World.size_setCell]; omega) _
    have c6' : (w.setCell ⟨B, 7, none⟩ (.slice (some ⟨w.heap.size, 0, none⟩) k cp)).cell? ⟨B, 6, none⟩ = some (.int .i64 0) := (h.set 7 _).cell 6 rfl
    have f6' : (w.setCell ⟨B, 7, none⟩ (.slice (some ⟨w.heap.size, 0, none⟩) k cp)).frozen? ⟨B, 6, none⟩ = false := (h.set 7 _).free 6
    generalize (cellsOf ((bytesM s).take k)).toArray ++ Array.replicate (cp - k) (.int .i32 0) = X at *
    clear h hrn hxs
    go_enter Tryd.func59, Tryd.ntmps59
    go_wp2_with fail
    refine (HL.out _).mono ?_
    rintro e w1 ⟨rfl, rfl⟩
    go_wp2
    clear c5 c6 c7 f6 f7 c6' f6' hcv
    generalize (((w.setCell ⟨B, 7, none⟩ (.slice (some ⟨w.heap.size, 0, none⟩) k cp)).setCell ⟨B, 6, none⟩ (.int .i64 ((k : Int) + 1))).alloc (.cells X 21)) = w2 at *
    have hB2 := HK2.out.lt
    have c72 := HK2.out.cell 7 rfl
    have HBG := Hid.mk' (begin_any B 86 _ _ 0 0 0 _ (k : Int) w2.drew.drew HK2.out.drew.drew)
    go_region_law (go_simp; go_at_call 98; refine HBG.out.mono ?_; rintro e w3 ⟨rfl, hk3, ho3⟩)
    have HFIN : Hid (DecAt w3 B s F ⟨128, 0, 72, true, (bytesM s).take (F - 1)⟩ (.slice (some ⟨w.heap.size, 0, none⟩) k cp)) := by
      rw [HFR.out, Int.toNat_natCast, Nat.add_sub_cancel]
      refine ⟨?_, ?_⟩
      · show Blk w3 B _ [_, _, _, _, .int .i64 ((((bytesM s).take k).length : Nat) : Int), _, _, _]
        rw [htl]
        exact hk3
      · show w3.ownsRow (B + 1) 21 1 _ ((bytesM s).take k).length (cellsOf ((bytesM s).take k))
        rw [htl]
        exact owns_on (owns_below HO2.out (Below.refl _ _).drew.drew) ho3 (Nat.lt_succ_self B)
    have HFB : Hid (Below B w w3) := HB2.out.drew.drew.trans (ho3.below (Nat.le_of_lt hB2))
    clear hk3 ho3 HK2 HO2 HB2 HBG
    go_wp2
    go_end0
    exact ⟨rfl, ⟨_, HFIN.out⟩, HFB.out⟩
  · rw [if_neg hL] at HFR
    have hkd : decide (0 < L) = false := decide_eq_false hL
    have HBG := Hid.mk' (begin_any B 86 _ _ 0 0 0 _ 0 w.drew h.drew)
    clear h
    go_enter Tryd.func59, Tryd.ntmps59
    go_wp2_with fail
    refine (HL.out _).mono ?_
    rintro e w1 ⟨rfl, rfl⟩
    go_wp2
    go_region_law (go_simp; go_at_call 98; refine HBG.out.mono ?_; rintro e w3 ⟨rfl, hk3, ho3⟩)
    have HFIN : Hid (DecAt w3 B s F ⟨128, 0, 72, true, (bytesM s).take (F - 1)⟩ (.slice none 0 0)) := by
      rw [HFR.out]
      exact ⟨hk3, World.ownsRow_nil _ _ _ _⟩
    have HFB : Hid (Below B w w3) := (Below.refl B w).drew.trans (ho3.below (Nat.le_of_lt hBs))
    clear hk3 ho3 HBG
    go_wp2
    go_end0
    exact ⟨rfl, ⟨_, HFIN.out⟩, HFB.out⟩
end Go.Proofs.YtockmkcoehepiaaDoor

/-
  What is proved here: what classes.Direction, the reference's Direction and dir, bidi's only and directions answer.
-/
import Derived.Test.YtcklfcoobccgcaaDoorD1
import Derived.Test.YtcklfcoobccgcaaDoorR5
import Derived.Deep.RegionHeld3
import Derived.Deep.OwnRows
namespace Go.Proofs.YtcklfcoobccgcaaDoor
open Go.RowKit Go.Shelf

set_option maxRecDepth 20000 in
set_option maxHeartbeats 2000000 in
theorem direction_any (a : Nat → Option Addr) (c : Nat → Nat) (t : Nat → List Rg) (r : Int) (w : World) (hT : Tab w (.slice (a 9) (t 9).length (c 9)) (t 9)) (ho : Ok (t 9)) :
    Calls Tryd.prog 20 #[PV a c t, .int .i32 r] w fun e w' => e = .returned (.int .i64 (dirM (t 9) r)) ∧ Below w.heap.size w w' := by
  unfold PV
  obtain ⟨W0, hW0, hsz0, hb0, hp⟩ := prop_box w a c t
  have e9 := hp 9 (by omega)
  have HV := Hid.mk' (find_any (.slice (a 9) (t 9).length (c 9)) (t 9) r W0 (hT.below hb0) (by have := ho.len; omega) ho.ri ho.ap)
  unfold foundV at HV
  unfold dirM
  clear hp hT ho
  cases hf : find (t 9) r with
  | none =>
    rw [hf] at HV
    clear hf
    go_enter Tryd.func20, Tryd.ntmps20
    go_wp2_with fail
    refine HV.out.mono ?_
    rintro e w1 ⟨rfl, hb1⟩
    go_wp2
    go_ret
    exact ⟨rfl, hb0.trans (hb1.mono hb0.size)⟩
  | some v =>
    rw [hf] at HV
    clear hf
    go_enter Tryd.func20, Tryd.ntmps20
    go_wp2_with fail
    refine HV.out.mono ?_
    rintro e w1 ⟨rfl, hb1⟩
    go_wp2
    go_ret
    exact ⟨rfl, hb0.trans (hb1.mono hb0.size)⟩
set_option maxRecDepth 20000 in
set_option maxHeartbeats 2000000 in
theorem refDirection_any (a : Nat → Option Addr) (c : Nat → Nat) (t : Nat → List Rg) (r : Int) (w : World) (hT : Tab w (.slice (a 9) (t 9).length (c 9)) (t 9)) (hl : (t 9).length ≤ 2147483648) :
    Calls Tryd.prog 46 #[PV a c t, .int .i32 r] w fun e w' => e = .returned (.int .i64 (dirM (t 9) r)) ∧ Below w.heap.size w w' := by
  unfold PV
  obtain ⟨W0, hW0, hsz0, hb0, hp⟩ := prop_box w a c t
  have e9 := hp 9 (by omega)
  have HV := Hid.mk' (refFind_any (.slice (a 9) (t 9).length (c 9)) (t 9) r W0 (hT.below hb0) hl)
  unfold foundV at HV
  unfold dirM
  clear hp hT
  cases hf : find (t 9) r with
  | none =>
    rw [hf] at HV
    clear hf
    go_enter Tryd.func46, Tryd.ntmps46
    go_wp2_with fail
    refine HV.out.mono ?_
    rintro e w1 ⟨rfl, rfl⟩
    go_wp2
    go_ret
    exact ⟨rfl, hb0⟩
  | some v =>
    rw [hf] at HV
    clear hf
    go_enter Tryd.func46, Tryd.ntmps46
    go_wp2_with fail
    refine HV.out.mono ?_
    rintro e w1 ⟨rfl, rfl⟩
    go_wp2
    go_ret
    exact ⟨rfl, hb0⟩
set_option maxRecDepth 20000 in
set_option maxHeartbeats 2000000 in
theorem dir_any (a : Nat → Option Addr) (c : Nat → Nat) (t : Nat → List Rg) (r : Int) (w : World) (hT : Tab w (.slice (a 9) (t 9).length (c 9)) (t 9)) (hl : (t 9).length ≤ 2147483648) :
    Calls Tryd.prog 28 #[PV a c t, .int .i32 r] w fun e w' => e = .returned (.int .i64 (dirM (t 9) r)) ∧ Below w.heap.size w w' := by
  obtain ⟨W0, hW0, hsz0, hb0, hp⟩ := prop_box w a c t
  have e0 : W0.cell? ⟨w.heap.size, 0, none⟩ = some (.slice (a 0) (t 0).length (c 0)) := hp 0 (by omega)
  have e1 : W0.cell? ⟨w.heap.size, 1, none⟩ = some (.slice (a 1) (t 1).length (c 1)) := hp 1 (by omega)
  have e2 : W0.cell? ⟨w.heap.size, 2, none⟩ = some (.slice (a 2) (t 2).length (c 2)) := hp 2 (by omega)
  have e3 : W0.cell? ⟨w.heap.size, 3, none⟩ = some (.slice (a 3) (t 3).length (c 3)) := hp 3 (by omega)
  have e4 : W0.cell? ⟨w.heap.size, 4, none⟩ = some (.slice (a 4) (t 4).length (c 4)) := hp 4 (by omega)
  have e5 : W0.cell? ⟨w.heap.size, 5, none⟩ = some (.slice (a 5) (t 5).length (c 5)) := hp 5 (by omega)
  have e6 : W0.cell? ⟨w.heap.size, 6, none⟩ = some (.slice (a 6) (t 6).length (c 6)) := hp 6 (by omega)
  have e7 : W0.cell? ⟨w.heap.size, 7, none⟩ = some (.slice (a 7) (t 7).length (c 7)) := hp 7 (by omega)
  have e8 : W0.cell? ⟨w.heap.size, 8, none⟩ = some (.slice (a 8) (t 8).length (c 8)) := hp 8 (by omega)
  have e9 : W0.cell? ⟨w.heap.size, 9, none⟩ = some (.slice (a 9) (t 9).length (c 9)) := hp 9 (by omega)
  have e10 : W0.cell? ⟨w.heap.size, 10, none⟩ = some (.slice (a 10) (t 10).length (c 10)) := hp 10 (by omega)
  have HV := Hid.mk' (refDirection_any a c t r W0 (hT.below hb0) hl)
  unfold PV at HV ⊢
  generalize dirM (t 9) r = d at *
  clear hp hT
  go_enter Tryd.func28, Tryd.ntmps28
  go_wp2_with fail
  refine HV.out.mono ?_
  rintro e w1 ⟨rfl, hb1⟩
  go_wp2
  go_ret
  exact ⟨rfl, hb0.trans (hb1.mono hb0.size)⟩
set_option maxHeartbeats 2000000 in
theorem only_any (d : Int) (h : 1 ≤ d ∧ d ≤ 11) (w : World) :
    Calls Tryd.prog 42 #[.int .i64 d] w fun e w' => e = .returned (.int .u16 (setM d)) ∧ w = w' := by
  rcases dir_cases h with rfl | rfl | rfl | rfl | rfl | rfl | rfl | rfl | rfl | rfl | rfl
  all_goals
    go_enter Tryd.func42, Tryd.ntmps42
    go_wp2
    go_ret
    exact ⟨rfl, rfl⟩
/-- the block B holds these cells -/
def Blk (w : World) (B : Nat) (T : TypeId) (xs : List Value) : Prop := w.heap[B]? = some (.cells xs.toArray T (0, 0))
theorem Blk.lt {w : World} {B : Nat} {T : TypeId} {xs : List Value} (h : Blk w B T xs) : B < w.heap.size := by
  rcases Nat.lt_or_ge B w.heap.size with g | g
  · exact g
  · unfold Blk at h; rw [Array.getElem?_eq_none g] at h; cases h
theorem Blk.cell {w : World} {B : Nat} {T : TypeId} {xs : List Value} (h : Blk w B T xs) (o : Nat) {v : Value} (hv : xs[o]? = some v) : w.cell? ⟨B, o, none⟩ = some v := by
  unfold Blk at h
  simp [World.cell?, h, hv]
theorem Blk.free {w : World} {B : Nat} {T : TypeId} {xs : List Value} (h : Blk w B T xs) (o : Nat) : w.frozen? ⟨B, o, none⟩ = false := by
  unfold Blk at h
  simp [World.frozen?, h]
theorem Blk.set {w : World} {B : Nat} {T : TypeId} {xs : List Value} (h : Blk w B T xs) (o : Nat) (u : Value) : Blk (w.setCell ⟨B, o, none⟩ u) B T (xs.set o u) := by
  have hlt := h.lt
  unfold Blk at *
  have h' : w.heap[B] = .cells xs.toArray T (0, 0) := by simpa [Array.getElem?_eq_getElem hlt] using h
  show (w.heap.modify B _)[B]? = _
  rw [Array.getElem?_eq_getElem (by simpa using hlt), Array.getElem_modify_self, h']
  simp
theorem Blk.below {w w' : World} {B : Nat} {T : TypeId} {xs : List Value} (h : Blk w B T xs) (hb : Below w.heap.size w w') : Blk w' B T xs := (hb.block B h.lt).trans h
theorem Blk.new (w : World) (T : TypeId) (xs : List Value) : Blk (w.alloc (.cells xs.toArray T)) w.heap.size T xs := Array.getElem?_push_size
/-- the row of sets, k of them laid -/
def rowL (ds : List Int) (k : Nat) : List Value := (List.range ds.length).map fun i => .int .u16 (if i < k then setM (ds.getD i 0) else 0)
theorem rowL_at {ds : List Int} {k i : Nat} (h : i < ds.length) : (rowL ds k)[i]? = some (.int .u16 (if i < k then setM (ds.getD i 0) else 0)) := by
  simp [rowL, h]
theorem rowL_set (ds : List Int) (k : Nat) : (rowL ds k).set k (.int .u16 (setM (ds.getD k 0))) = rowL ds (k + 1) := by
  apply List.ext_getElem?
  intro i
  rw [List.getElem?_set]
  by_cases hi : i < ds.length
  · rw [rowL_at hi, rowL_at hi]
    have hl : (rowL ds k).length = ds.length := by simp [rowL]
    by_cases e : k = i
    · subst e; simp [hl, hi]
    · rw [if_neg e]
      congr 2
      by_cases g : i < k
      · rw [if_pos g, if_pos (by omega)]
      · rw [if_neg g, if_neg (by omega)]
  · have h1 : (rowL ds k)[i]? = none := by simp [rowL]; omega
    have h2 : (rowL ds (k + 1))[i]? = none := by simp [rowL]; omega
    rw [h1, h2]
    have hl : (rowL ds k).length = ds.length := by simp [rowL]
    split
    · rename_i e; subst e; rw [if_neg (by omega)]
    · rfl
theorem rowL_zero (ds : List Int) : madeCells #[.int .u16 0] ds.length = (rowL ds 0).toArray := by
  apply Array.ext'
  apply List.ext_getElem?
  intro i
  have e : (rowL ds 0).toArray.toList = rowL ds 0 := rfl
  rw [e, Array.getElem?_toList]
  by_cases hi : i < ds.length
  · rw [rowL_at hi]; simp [madeCells, hi, Nat.mod_one]
  · have h2 : (rowL ds 0)[i]? = none := by simp [rowL]; omega
    rw [h2]; simp [madeCells]; omega
theorem rowL_elem {W : World} {g : Nat} {T : TypeId} {ds : List Int} (h : Blk W g T (rowL ds ds.length)) : ElemC W (some ⟨g, 0, none⟩) ds.length (fun j => .int .u16 (setM (ds.getD j 0))) := fun j hj =>
  ⟨g, 0, rfl, by rw [Nat.zero_add]; refine h.cell j ?_; rw [rowL_at hj, if_pos hj]⟩
theorem Tryd.infoSet : (Tryd.prog.info? 53).map (fun i => (i.zero, i.size, i.bytes)) = some (some (.int .u16 0), 1, 2) := by kernel_rfl
set_option maxRecDepth 20000 in
set_option maxHeartbeats 4000000 in
theorem directions_any (a : Nat → Option Addr) (c : Nat → Nat) (t : Nat → List Rg) (va : Option Addr) (vcap : Nat) (l : List Int) (w : World) (hT : Tab w (.slice (a 9) (t 9).length (c 9)) (t 9)) (ho : Ok (t 9)) (hv : Runes w (.slice va l.length vcap) l) (hl : l.length ≤ 1000000) (hd : Dirs (dirsM (t 9) l)) :
    Calls Tryd.prog 23 #[PV a c t, .slice va l.length vcap] w fun e w' => ∃ g, e = .returned (.slice (some ⟨g, 0, none⟩) l.length l.length) ∧ ElemC w' (some ⟨g, 0, none⟩) l.length (fun j => .int .u16 (setM ((dirsM (t 9) l).getD j 0))) ∧ Below w.heap.size w w' := by
  obtain ⟨W0, hW0, hsz0, hb0, hp⟩ := prop_box w a c t
  have hmk := run_make_row' (P := Tryd.prog) 48 53 (.int .u16 0) 2 Tryd.underlying48 Tryd.infoSet rfl .i64 .i64 l.length (by omega) (by omega)
  have HD := Hid.mk' hd
  have hlen := dirsM_len (t 9) l
  have HLN := Hid.mk' hlen
  have HAT : Hid (∀ i, i < l.length → dirM (t 9) (l.getD i 0) = (dirsM (t 9) l).getD i 0) := fun i hi => (dirsM_at hi).symm
  have HZ := rowL_zero (dirsM (t 9) l)
  rw [hlen] at HZ
  rw [HZ] at hmk
  obtain ⟨W1, hW1⟩ : ∃ W1, W0.alloc (.cells (rowL (dirsM (t 9) l) 0).toArray 53) = W1 := ⟨_, rfl⟩
  have hbk1 : Blk W1 W0.heap.size 53 (rowL (dirsM (t 9) l) 0) := by rw [← hW1]; exact Blk.new _ _ _
  have hb1 : Below W0.heap.size W0 W1 := by rw [← hW1]; exact (Below.refl _ _).alloc (Nat.le_refl _) _
  have hsz1 : W1.heap.size = w.heap.size + 2 := by rw [← hW1, World.size_alloc, hsz0]
  rw [hsz0] at hbk1 hb1
  have HDR : Hid (∀ W i, Below (w.heap.size + 1) W0 W → i < l.length → (Calls Tryd.prog 20 #[PV a c t, .int .i32 (l.getD i 0)] W fun e w' => e = .returned (.int .i64 ((dirsM (t 9) l).getD i 0)) ∧ Below W.heap.size W w')) := fun W i hb hi => by
    rw [dirsM_at hi]
    exact direction_any a c t _ W ((hT.below hb0).below (hsz0 ▸ hb)) ho
  have HVJ : Hid (∀ W, Below (w.heap.size + 1) W0 W → ∀ j, j < l.length → ∃ b off, va = some ⟨b, off, none⟩ ∧ W.cell? ⟨b, off + j, none⟩ = some (.int .i32 (l.getD j 0))) := fun W hb j hj => by
    obtain ⟨va', vc', e, h⟩ := (hv.below hb0).below (hsz0 ▸ hb)
    injection e with e1 e2 e3
    obtain ⟨b, off, e4, hc⟩ := h j hj
    exact ⟨b, off, e1.trans e4, hc⟩
  have HPB : Hid (∀ W, Below (w.heap.size + 1) W0 W → (W.cell? ⟨w.heap.size, 0, none⟩ = some (.slice (a 0) (t 0).length (c 0)) ∧ W.cell? ⟨w.heap.size, 1, none⟩ = some (.slice (a 1) (t 1).length (c 1)) ∧ W.cell? ⟨w.heap.size, 2, none⟩ = some (.slice (a 2) (t 2).length (c 2)) ∧ W.cell? ⟨w.heap.size, 3, none⟩ = some (.slice (a 3) (t 3).length (c 3)) ∧ W.cell? ⟨w.heap.size, 4, none⟩ = some (.slice (a 4) (t 4).length (c 4)) ∧ W.cell? ⟨w.heap.size, 5, none⟩ = some (.slice (a 5) (t 5).length (c 5)) ∧ W.cell? ⟨w.heap.size, 6, none⟩ = some (.slice (a 6) (t 6).length (c 6)) ∧ W.cell? ⟨w.heap.size, 7, none⟩ = some (.slice (a 7) (t 7).length (c 7)) ∧ W.cell? ⟨w.heap.size, 8, none⟩ = some (.slice (a 8) (t 8).length (c 8)) ∧ W.cell? ⟨w.heap.size, 9, none⟩ = some (.slice (a 9) (t 9).length (c 9)) ∧ W.cell? ⟨w.heap.size, 10, none⟩ = some (.slice (a 10) (t 10).length (c 10)))) := fun W hb => by
    have q := hp.below (hsz0 ▸ hb)
    exact ⟨q 0 (by omega), q 1 (by omega), q 2 (by omega), q 3 (by omega), q 4 (by omega), q 5 (by omega), q 6 (by omega), q 7 (by omega), q 8 (by omega), q 9 (by omega), q 10 (by omega)⟩
  have HB0 := Hid.mk' hb0
  generalize dirsM (t 9) l = ds at *
  unfold PV at HDR ⊢
  clear hT ho hv hd hp hlen HZ
  go_enter Tryd.func23, Tryd.ntmps23
  go_wp2
  go_loopw [13] (fun x wr => ∃ k : Nat, k ≤ l.length ∧ x = .int .i64 k ∧ Blk wr (w.heap.size + 1) 53 (rowL ds k) ∧ Below (w.heap.size + 1) W0 wr) (fun x _ => l.length - (intOf x).toNat)
  case atStart => exact ⟨0, Nat.zero_le _, rfl, hbk1, hb1⟩
  case round =>
    obtain ⟨k, hk, rfl, hbk, hb⟩ := hrel
    by_cases hlt : k < l.length
    · obtain ⟨b, off, rfl, ck⟩ := HVJ.out wr hb k hlt
      obtain ⟨x0, x1, x2, x3, x4, x5, x6, x7, x8, x9, x10⟩ := HPB.out wr hb
      have HDk := Hid.mk' (HDR.out wr k hb hlt)
      have hdl := HLN.out
      have hdk := HD.out k (by omega)
      have hset := Hid.mk' (rowL_set ds k)
      have hklz : (k : Int) < (l.length : Int) := by omega
      generalize ds.getD k 0 = d at *
      generalize l.getD k 0 = r at *
      clear HDR HVJ HPB
      go_wp2_with fail
      refine HDk.out.mono ?_
      rintro e w1 ⟨rfl, hb1'⟩
      have hszr : w.heap.size + 2 ≤ wr.heap.size := by have := hbk.lt; omega
      have hbk1' : Blk w1 (w.heap.size + 1) 53 (rowL ds k) := hbk.below hb1'
      have hb1'' : Below (w.heap.size + 1) W0 w1 := hb.trans (hb1'.mono (by omega))
      clear x0 x1 x2 x3 x4 x5 x6 x7 x8 x9 x10 ck hbk hb hb1'
      have HO := Hid.mk' (only_any d hdk w1)
      go_wp2_with fail
      refine HO.out.mono ?_
      rintro e w2 ⟨rfl, rfl⟩
      have hcell := hbk1'.cell k (rowL_at (by omega))
      have hfree := hbk1'.free k
      go_wp2
      go_roundw
      case rel => exact ⟨k + 1, by omega, by go_num, by rw [← hset.out]; exact hbk1'.set k _, Below.setCell hb1'' (by simp) _⟩
      case measure => simp [intOf]; omega
    · obtain rfl : k = l.length := by omega
      have hE : ElemC wr (some ⟨w.heap.size + 1, 0, none⟩) ds.length (fun j => .int .u16 (setM (ds.getD j 0))) := rowL_elem (T := 53) (by rw [HLN.out]; exact hbk)
      rw [HLN.out] at hE
      have HE := Hid.mk' hE
      clear hE
      go_wp2
      go_ret
      exact ⟨_, rfl, HE.out, HB0.out.trans (hb.mono (by omega))⟩
end Go.Proofs.YtcklfcoobccgcaaDoor

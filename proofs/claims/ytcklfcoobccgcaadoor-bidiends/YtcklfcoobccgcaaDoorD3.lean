/-
  What is proved here: what bidi's firstRule, outside, wrongEnd and allSeen answer of a row of sets of one direction each.
-/
import Derived.Test.YtcklfcoobccgcaaDoorD2
namespace Go.Proofs.YtcklfcoobccgcaaDoor
open Go.RowKit Go.Shelf

/-- the row of sets of some directions -/
def SetsC (W : World) (a : Option Addr) (ds : List Int) : Prop := ElemC W a ds.length (fun j => .int .u16 (setM (ds.getD j 0)))
theorem SetsC.below {W W' : World} {a : Option Addr} {ds : List Int} (h : SetsC W a ds) (hb : Below W.heap.size W W') : SetsC W' a ds := ElemC.below h hb
/-- the rule from which on the rules are tried -/
def startM (ds : List Int) : Int := if ds.length = 0 then 1 else if 3 < ds.getD 0 0 then 1 else if 1 < ds.getD 0 0 then 2 else 5
set_option maxHeartbeats 2000000 in
theorem firstRule_any (a : Option Addr) (cap : Nat) (ds : List Int) (w : World) (h : SetsC w a ds) (hd : Dirs ds) :
    Calls Tryd.prog 24 #[.slice a ds.length cap] w fun e w' => e = .returned (.int .i64 (startM ds)) ∧ w = w' := by
  by_cases h0 : ds.length = 0
  · have hz : ((ds.length : Int) == 0) = true := by simpa using h0
    have HF : Hid (startM ds = 1) := by unfold startM; rw [if_pos h0]; exact rfl
    clear h
    go_enter Tryd.func24, Tryd.ntmps24
    go_wp2
    go_ret
    exact ⟨ret_int HF.out.symm, rfl⟩
  · have hz : ((ds.length : Int) == 0) = false := by simpa using h0
    have h0z : (0 : Int) < (ds.length : Int) := by omega
    obtain ⟨b, off, rfl, c0⟩ := h 0 (by omega)
    have c0' : w.cell? ⟨b, off, none⟩ = some (.int .u16 (setM (ds.getD 0 0))) := c0
    have hdd := hd 0 (by omega)
    have e1 := set_one hdd
    have e2 := bits_start hdd
    have HF : Hid (startM ds = if 3 < ds.getD 0 0 then 1 else if 1 < ds.getD 0 0 then 2 else 5) := by unfold startM; rw [if_neg h0]; exact rfl
    generalize ds.getD 0 0 = d at *
    clear h hd c0 h0
    rcases (by omega : d = 1 ∨ (d = 2 ∨ d = 3) ∨ 3 < d) with g | g | g
    · rw [decide_eq_true g] at e1
      have HF1 : Hid (startM ds = 5) := by rw [HF.out, if_neg (by omega), if_neg (by omega)]; exact rfl
      clear HF g e2 hdd
      go_enter Tryd.func24, Tryd.ntmps24
      go_wp2
      go_ret
      exact ⟨ret_int HF1.out.symm, rfl⟩
    · rw [decide_eq_false (by omega)] at e1
      rw [decide_eq_true g] at e2
      have HF1 : Hid (startM ds = 2) := by rw [HF.out, if_neg (by omega), if_pos (by omega)]; exact rfl
      clear HF g hdd
      go_enter Tryd.func24, Tryd.ntmps24
      go_wp2
      go_ret
      exact ⟨ret_int HF1.out.symm, rfl⟩
    · rw [decide_eq_false (by omega)] at e1
      rw [decide_eq_false (by omega)] at e2
      have HF1 : Hid (startM ds = 1) := by rw [HF.out, if_pos (by omega)]; exact rfl
      clear HF g hdd
      go_enter Tryd.func24, Tryd.ntmps24
      go_wp2
      go_ret
      exact ⟨ret_int HF1.out.symm, rfl⟩
set_option maxRecDepth 20000 in
set_option maxHeartbeats 2000000 in
/-- the first one that is not in the set m; f: who that is -/
theorem outside_any (m : Int) (f : Int → Bool) (hm : ∀ d, 1 ≤ d ∧ d ≤ 11 → (bits BinOp.and IntKind.u16 (setM d) m == 0) = f d) (a : Option Addr) (cap : Nat) (ds : List Int) (w : World) (h : SetsC w a ds) (hl : ds.length ≤ 1000000) (hd : Dirs ds) :
    Calls Tryd.prog 25 #[.slice a ds.length cap, .int .u16 m] w fun e w' => e = .returned (.int .i64 (idxN ds.length (fun i => f (ds.getD i 0)))) ∧ Below w.heap.size w w' := by
  have hF : ∀ args w, (callFunc 44 args).run Tryd.prog w = .ok (.enter 44 args) w := enters_of Tryd.func44 (by kernel_rfl) rfl
  obtain ⟨W0, hW0⟩ : ∃ W0, w.alloc (.cells #[.int .u16 m] 53) = W0 := ⟨_, rfl⟩
  have hb0 : Below w.heap.size w W0 := by rw [← hW0]; exact (Below.refl _ w).alloc (Nat.le_refl _) _
  have e0 : W0.cell? ⟨w.heap.size, 0, none⟩ = some (.int .u16 m) := by rw [← hW0, World.cell?_alloc_new]; rfl
  have HI := Hid.mk' (indexS_any 44 #[.pointer (some ⟨w.heap.size, 0, none⟩)] (fun i => f (ds.getD i 0)) (fun _ W => W0 = W) a ds.length cap (fun j => setM (ds.getD j 0)) W0 (by omega) rfl (fun k W e => by subst e; exact h.below hb0) hF (fun k W hk e => by
    subst e
    refine (outside1_any (setM (ds.getD k 0)) m w.heap.size W0 e0).mono ?_
    rintro e w' ⟨rfl, rfl⟩
    exact ⟨ret_bool (hm _ (hd k hk)), rfl⟩))
  have HB := Hid.mk' hb0
  generalize idxN ds.length (fun i => f (ds.getD i 0)) = x at *
  clear h hd hm hF hb0
  go_enter Tryd.func25, Tryd.ntmps25
  go_wp2_with fail
  refine HI.out.mono ?_
  rintro e w1 ⟨rfl, -, rfl⟩
  go_wp2
  go_ret
  exact ⟨rfl, HB.out⟩
set_option maxRecDepth 20000 in
set_option maxHeartbeats 2000000 in
theorem allSeen_any (a : Option Addr) (cap : Nat) (ds : List Int) (w : World) (h : SetsC w a ds) (hl : ds.length ≤ 1000000) (hd : Dirs ds) :
    Calls Tryd.prog 27 #[.slice a ds.length cap, .int .u16 24] w fun e w' => e = .returned (.int .i64 (idxN ds.length (bothB ds))) ∧ Below w.heap.size w w' := by
  have hF : ∀ args w, (callFunc 45 args).run Tryd.prog w = .ok (.enter 45 args) w := enters_of Tryd.func45 (by kernel_rfl) rfl
  obtain ⟨W0, hW0⟩ : ∃ W0, w.alloc (.cells #[.int .u16 24] 53) = W0 := ⟨_, rfl⟩
  have hs0 : W0.heap.size = w.heap.size + 1 := by rw [← hW0, World.size_alloc]
  have hb0 : Below w.heap.size w W0 := by rw [← hW0]; exact (Below.refl _ w).alloc (Nat.le_refl _) _
  have e0 : W0.cell? ⟨w.heap.size, 0, none⟩ = some (.int .u16 24) := by rw [← hW0, World.cell?_alloc_new]; rfl
  obtain ⟨W1, hW1⟩ : ∃ W1, W0.alloc (.cells #[.int .u16 0] 53) = W1 := ⟨_, rfl⟩
  have hb1 : Below W0.heap.size W0 W1 := by rw [← hW1]; exact (Below.refl _ _).alloc (Nat.le_refl _) _
  have k1 : Blk W1 W0.heap.size 53 [.int .u16 0] := by rw [← hW1]; exact Blk.new _ _ _
  rw [hs0] at hb1 k1
  have HI := Hid.mk' (indexS_any 45 #[.pointer (some ⟨w.heap.size + 1, 0, none⟩), .pointer (some ⟨w.heap.size, 0, none⟩)] (bothB ds) (fun k W => Blk W (w.heap.size + 1) 53 [.int .u16 (seenV ds k)] ∧ Below (w.heap.size + 1) W0 W) a ds.length cap (fun j => setM (ds.getD j 0)) W1 (by omega) ⟨k1, hb1⟩ (fun k W e => (h.below hb0).below (hs0 ▸ e.2)) hF (fun k W hk hI => by
    obtain ⟨hk1, hbW⟩ := hI
    refine (allSeen1_any (setM (ds.getD k 0)) 24 (seenV ds k) (w.heap.size + 1) w.heap.size (by omega) W ((hbW.cell (p := ⟨w.heap.size, 0, none⟩) (by show w.heap.size < _; omega)).trans e0) (hk1.cell 0 rfl) (hk1.free 0)).mono ?_
    rw [seen_step (hd k hk), seen_both]
    rintro e w' ⟨rfl, rfl⟩
    exact ⟨rfl, hk1.set 0 _, Below.setCell hbW (by simp) _⟩))
  have HB := Hid.mk' hb0
  generalize idxN ds.length (bothB ds) = x at *
  clear h hd hF hb0 e0 k1 hb1
  go_enter Tryd.func27, Tryd.ntmps27
  go_wp2_with fail
  refine HI.out.mono ?_
  rintro e w1 ⟨rfl, k, -, hb⟩
  have HB2 := Hid.mk' (HB.out.trans (hb.mono (by omega)))
  go_wp2
  go_ret
  exact ⟨rfl, HB2.out⟩
set_option maxRecDepth 20000 in
set_option maxHeartbeats 2000000 in
/-- the last one that isn't NSM, where it isn't in the set m; -1: it is -/
theorem wrongEnd_any (m : Int) (f : Int → Bool) (hm : ∀ d, 1 ≤ d ∧ d ≤ 11 → (bits BinOp.and IntKind.u16 (setM d) m != 0) = f d) (a : Option Addr) (cap : Nat) (ds : List Int) (w : World) (h : SetsC w a ds) (hl : ds.length ≤ 1000000) (hd : Dirs ds) (hn : ds.length ≠ 0) (h3 : ¬ 3 < ds.getD 0 0) :
    Calls Tryd.prog 26 #[.slice a ds.length cap, .int .u16 m] w fun e w' => e = .returned (.int .i64 (if f (ds.getD (endM ds) 0) = true then -1 else (endM ds : Int))) ∧ w = w' := by
  have HC := Hid.mk' h
  have HD := Hid.mk' hd
  have h0 : ds.getD 0 0 ≠ 10 := brk_first h3
  have HP : Hid (∀ k, k < ds.length → ds.getD k 0 = 10 → endF ds (k + 1) = endM ds → 0 < k ∧ endF ds k = endM ds) := fun k hk h10 hE => by
    rw [endF_pass h10] at hE
    refine ⟨?_, hE⟩
    rcases Nat.eq_zero_or_pos k with rfl | g
    · exact absurd h10 h0
    · exact g
  have HH : Hid (∀ k, ds.getD k 0 ≠ 10 → endF ds (k + 1) = endM ds → k = endM ds) := fun k h10 hE => by rw [endF_hit h10] at hE; exact hE
  have HM := Hid.mk' hm
  have HS : Hid (endF ds ds.length = endM ds) := rfl
  obtain ⟨q, hq⟩ : ∃ q, f (ds.getD (endM ds) 0) = q := ⟨_, rfl⟩
  rw [hq]
  have HQ := Hid.mk' hq
  generalize endM ds = E at *
  clear hq
  clear h hd h3 h0 hm
  go_enter Tryd.func26, Tryd.ntmps26
  go_wp2
  go_loop [5] (fun x => ∃ k : Nat, k < ds.length ∧ x = .int .i64 k ∧ Hid (endF ds (k + 1) = E)) (fun x => (intOf x).toNat)
  case atStart =>
    refine ⟨ds.length - 1, by omega, ?_, ?_⟩
    · rw [show ((ds.length - 1 : Nat) : Int) = (ds.length : Int) - 1 by omega]
    · rw [show ds.length - 1 + 1 = ds.length by omega]; exact HS
  case round =>
    obtain ⟨k, hk, rfl, hE⟩ := hrel
    obtain ⟨b, off, rfl, ck0⟩ := HC.out k hk
    have ck : w.cell? ⟨b, off + k, none⟩ = some (.int .u16 (setM (ds.getD k 0))) := ck0
    clear ck0
    have hdk := HD.out k hk
    have e1 := set_nsm hdk
    have e2 := Hid.mk' (HM.out _ hdk)
    have hkz : (k : Int) < (ds.length : Int) := by omega
    have H1 := Hid.mk' (HP.out k hk)
    have H2 := Hid.mk' (HH.out k)
    by_cases g : ds.getD k 0 = 10
    · obtain ⟨hk0, hE2⟩ := H1.out g hE.out
      have HE2 := Hid.mk' hE2
      obtain ⟨j, rfl⟩ : ∃ j, k = j + 1 := ⟨k - 1, by omega⟩
      rw [decide_eq_true g] at e1
      generalize ds.getD (j + 1) 0 = d at *
      clear H1 H2 hE hE2 g e2
      go_wp2
      go_round
      case rel => exact ⟨j, by omega, by go_num, HE2⟩
      case measure => simp [intOf]
    · have hkE := H2.out g hE.out
      subst hkE
      rw [decide_eq_false g] at e1
      have e3 := e2.out
      rw [HQ.out] at e3
      generalize ds.getD k 0 = d at *
      clear H1 H2 g e2 HQ
      cases q
      all_goals
        go_wp2
        go_ret
        exact ⟨rfl, rfl⟩
end Go.Proofs.YtcklfcoobccgcaaDoor

/-
  What is proved here: that RangesFull answers true.
-/
import Derived.Test.YthheplgpjhhbmaaDoorB2
namespace Go.Proofs.YthheplgpjhhbmaaDoor
open Go.RowKit

/-- the ranges of the law: of one rune each, every other rune -/
def fullL (n : Nat) : List Rg := (List.range n).map fun (i : Nat) => ⟨2 * (i : Int), 2 * (i : Int), (i : Int)⟩
theorem fullL_len (n : Nat) : (fullL n).length = n := by simp [fullL]
theorem fullL_succ (n : Nat) : fullL (n + 1) = fullL n ++ [⟨2 * (n : Int), 2 * (n : Int), (n : Int)⟩] := by simp [fullL, List.range_succ]
theorem fullL_tbl (n : Nat) (h : n ≤ 2001) : Tbl (fullL n) := by
  refine ⟨fun r hr => ?_, ?_⟩
  · obtain ⟨i, hi, rfl⟩ := List.mem_map.1 hr
    have := List.mem_range.1 hi
    rw [Rg.may_iff]; simp; omega
  · unfold fullL
    rw [List.pairwise_map]
    exact List.pairwise_lt_range.imp fun {a b} hab => by simp; omega
theorem fullL_sum (n : Nat) : sum (fullL n) = n := by
  induction n with
  | zero => rfl
  | succ n ih => rw [fullL_succ, sum_append, ih, sum_one]; simp
theorem full_ok (n : Nat) (h : n ≤ 2000) : (chk (fullL n)).2 = 0 := tbl_right (fullL_tbl n (by omega)) (by rw [fullL_len]; omega)
theorem full_big (n : Nat) (h : 2000 < n) : faultsM (fullL n) = [(0, 18)] := by unfold faultsM; rw [if_pos (by rw [fullL_len]; omega)]
theorem chk_zero {l : List Rg} (h : (chk l).2 = 0) : faultsM l = [] ∧ chk l = (0, 0) := by
  unfold chk at h ⊢
  cases hf : faultsM l with
  | nil => exact ⟨rfl, rfl⟩
  | cons x t => rw [hf] at h; exact absurd h (faultsM_ne l x (by rw [hf]; simp))
theorem build_tbl {l : List Rg} (h : Tbl l) (hl : l.length ≤ 2000) : buildM l = (l, 0, 0) := by
  unfold buildM
  rw [(chk_zero (tbl_right h hl)).1]
  show buildL l [] 0 = _
  rw [buildL_tbl l [] 0 (by simpa using h)]
  simp
theorem build_ok (n : Nat) (h : n ≤ 2000) : buildM (fullL n) = (fullL n, 0, 0) := build_tbl (fullL_tbl n (by omega)) (by rw [fullL_len]; omega)
theorem build_big (n : Nat) (h : 2000 < n) : buildM (fullL n) = ([], 0, 18) := by unfold buildM; rw [full_big n h]; rfl
theorem chk_big (n : Nat) (h : 2000 < n) : chk (fullL n) = (0, 18) := by unfold chk; rw [full_big n h]; rfl
theorem take_full (n k : Nat) (h : k < n) : (fullL n).getD k default = ⟨2 * (k : Int), 2 * (k : Int), (k : Int)⟩ := by simp [fullL, List.getD, h]
theorem fullL_take (n k : Nat) (h : k ≤ n) : (fullL n).take k = fullL k := by
  unfold fullL
  rw [← List.map_take, List.take_range, Nat.min_eq_left h]
theorem full_build (n : Nat) (v : Value) (w : World) (p : Nat → Addr) (hg : Gl p w) (hgb : Gb p w) (hT : Tab w v (fullL n)) (hn : n ≤ 2001) :
    Calls Tryd.prog 10 #[v] w fun e w' => ∃ rv fv, e = .returned (.tuple #[rv, fv]) ∧ Tab w' rv (buildM (fullL n)).1 ∧ Says w' fv w.heap.size p (buildM (fullL n)).2 ∧ Below w.heap.size w w' := by
  refine build_any _ insert_end v (fullL n) w p hg hgb hT (by rw [fullL_len]; omega) (fun k t => t = (fullL n).take k) rfl ?_
  intro k t i hk ht hTb hri hnm
  rw [fullL_len] at hk
  have htl : t.length = k := by rw [ht, List.length_take, fullL_len]; omega
  have hre : Reach t ((fullL n).getD k default).lo t.length := by
    refine ⟨Nat.le_refl _, fun j hj => ?_, fun j h1 h2 => by omega⟩
    have hall := tbl_head (fullL_tbl n hn) (k := k) (by rw [fullL_len]; exact hk)
    exact hall _ (by rw [← ht]; exact getD_mem hj)
  have hil : i = t.length := reach_unique hri hre
  refine ⟨hil, ?_⟩
  rw [hil, take_snoc (by rw [fullL_len]; exact hk), ← ht]
  simp [insAt]
set_option maxRecDepth 20000 in
set_option maxHeartbeats 4000000 in
theorem full_any (w : World) (p : Nat → Addr) (hg : Gl p w ∧ Gb p w) (hm : Ml w) (more : Bool) :
    Calls Tryd.prog 4 #[.bool more] w fun e w' => e = .returned (.bool true) ∧ Below w.heap.size w w' := by
  obtain ⟨hg, hgb⟩ := hg
  obtain ⟨i0, hi, hz0, hz1, hz2⟩ := info_parts Tryd.infoRange
  have HA := Hid.mk' (awake3_any w p hg hm)
  have HGb : Hid (∀ W, Below w.heap.size w W → Gl p W ∧ Gb p W) := fun W hb => ⟨hg.below hb, hgb.below hb⟩
  clear hg hgb hm
  cases more
  · go_enter Tryd.func4, Tryd.ntmps4
    go_wp2_with fail
    refine HA.out.mono ?_
    rintro e w1 ⟨rfl, hb1⟩
    go_wp2
    go_loopw [4, 5] (fun x y wr => ∃ k : Nat, y = .int .i64 k ∧ k ≤ 2000 ∧ wr.ownsRow w1.heap.size 37 3 x (fullL k).length (cellsOf (fullL k)) ∧ Below w1.heap.size w1 wr) (fun _ y _ => 2000 - (intOf y).toNat)
    case atStart => exact ⟨0, rfl, by omega, World.ownsRow_nil _ _ _ _, Below.refl _ _⟩
    case round =>
      obtain ⟨k, rfl, hk, hown, hb⟩ := hrel
      have hsz := hb.size
      rw [fullL_len] at hown
      by_cases hlt : k < 2000
      · go_wp2_with (at_builtin; refine wpList_append_own _ rfl _ _ 22 rfl w1.heap.size 37 i0 (.agg #[.int .i32 0, .int .i32 0, .int .i64 0]) 3 16 Tryd.underlying22 hi hz0 hz1 hz2 rfl (by decide) _ _ _ rfl (hown.alloc _) ⟨wr.heap.size, 0, none⟩ 1 1 [.int .i32 (2 * (k : Int)), .int .i32 (2 * (k : Int)), .int .i64 k] rfl rfl (cells_new _ _ _) (by intro u hu; simp at hu; rcases hu with rfl | rfl <;> rfl) (by unfold maxLen; omega) (by omega) (by simp; omega) ?_; intro v' w3 hown' hgrow _)
        have R1 : Below w1.heap.size w1 w3 := (hb.alloc hsz _).grown hgrow (by simp; omega) (fun j hj => (hown.lt j hj).1)
        have R2 : w3.ownsRow w1.heap.size 37 3 v' (fullL (k + 1)).length (cellsOf (fullL (k + 1))) := by rw [fullL_len, fullL_succ, cellsOf_snoc]; exact hown'
        clear hown' hgrow hown
        go_roundw
        case rel => exact ⟨k + 1, by go_num, by omega, R2, R1⟩
        case measure => simp [intOf]; omega
      · obtain rfl : k = 2000 := by omega
        have hbw := hb1.trans (hb.mono hb1.size)
        have hTab : Tab wr u4 (fullL 2000) := Tab.own (by rw [fullL_len]; exact hown)
        obtain ⟨hg', hgb'⟩ := HGb.out wr hbw
        have HB := full_build 2000 u4 wr p hg' hgb' hTab (by omega)
        rw [build_ok 2000 (by omega)] at HB
        have HBu := Hid.mk' HB
        have HTb : Hid (∀ W, Below wr.heap.size wr W → Tab W u4 (fullL 2000)) := fun W h => hTab.below h
        have HC : Hid (∀ W, Below wr.heap.size wr W → Calls Tryd.prog 13 #[u4] W fun e w' => e = .returned .nilIface ∧ Below W.heap.size W w') := fun W h => by
          refine (check_any u4 (fullL 2000) W p (hg'.below h) (hTab.below h) (by rw [fullL_len]; omega)).mono ?_
          rintro e w' ⟨fv, rfl, hs | ⟨hs, -⟩, hb⟩
          · exact ⟨by rw [hs.2], hb⟩
          · exact absurd (full_ok 2000 (by omega)) hs
        have HN : Hid (∀ W, Below wr.heap.size wr W → Calls Tryd.prog 15 #[u4] W fun e w' => e = .returned (.int .i64 2000) ∧ Below W.heap.size W w') := fun W h => by
          have := count_any u4 (fullL 2000) W (hTab.below h) (by rw [fullL_len]; omega) (right_parts (full_ok 2000 (by omega))).2.1
          rw [sumTo_all, fullL_sum] at this
          exact this
        obtain ⟨sa, sc, hsv⟩ : ∃ sa sc, u4 = .slice sa 2000 sc := by obtain ⟨sa, sc, e, -⟩ := hTab; exact ⟨sa, sc, by rw [e, fullL_len]⟩
        subst hsv
        clear HB hTab hown hg' hgb'
        go_wp2_with fail
        refine HBu.out.mono ?_
        rintro e w2 ⟨rv, fv, rfl, ht2, hs2, hb2⟩
        obtain ⟨ra, rc, rfl, -⟩ := ht2
        rw [fullL_len]
        rcases hs2 with ⟨-, rfl⟩ | ⟨hs2, -⟩
        rotate_left
        · simp at hs2
        go_wp2_with fail
        refine (HC.out w2 hb2).mono ?_
        rintro e w4 ⟨rfl, hb4⟩
        have hb24 := hb2.trans (hb4.mono hb2.size)
        go_wp2_with fail
        refine (HN.out w4 hb24).mono ?_
        rintro e w5 ⟨rfl, hb5⟩
        have hb25 := hb24.trans (hb5.mono hb24.size)
        go_wp2
        go_ret
        exact ⟨rfl, hbw.trans (hb25.mono hbw.size)⟩
  · go_enter Tryd.func4, Tryd.ntmps4
    go_wp2_with fail
    refine HA.out.mono ?_
    rintro e w1 ⟨rfl, hb1⟩
    go_wp2
    go_loopw [4, 5] (fun x y wr => ∃ k : Nat, y = .int .i64 k ∧ k ≤ 2001 ∧ wr.ownsRow w1.heap.size 37 3 x (fullL k).length (cellsOf (fullL k)) ∧ Below w1.heap.size w1 wr) (fun _ y _ => 2001 - (intOf y).toNat)
    case atStart => exact ⟨0, rfl, by omega, World.ownsRow_nil _ _ _ _, Below.refl _ _⟩
    case round =>
      obtain ⟨k, rfl, hk, hown, hb⟩ := hrel
      have hsz := hb.size
      rw [fullL_len] at hown
      by_cases hlt : k < 2001
      · go_wp2_with (at_builtin; refine wpList_append_own _ rfl _ _ 22 rfl w1.heap.size 37 i0 (.agg #[.int .i32 0, .int .i32 0, .int .i64 0]) 3 16 Tryd.underlying22 hi hz0 hz1 hz2 rfl (by decide) _ _ _ rfl (hown.alloc _) ⟨wr.heap.size, 0, none⟩ 1 1 [.int .i32 (2 * (k : Int)), .int .i32 (2 * (k : Int)), .int .i64 k] rfl rfl (cells_new _ _ _) (by intro u hu; simp at hu; rcases hu with rfl | rfl <;> rfl) (by unfold maxLen; omega) (by omega) (by simp; omega) ?_; intro v' w3 hown' hgrow _)
        have R1 : Below w1.heap.size w1 w3 := (hb.alloc hsz _).grown hgrow (by simp; omega) (fun j hj => (hown.lt j hj).1)
        have R2 : w3.ownsRow w1.heap.size 37 3 v' (fullL (k + 1)).length (cellsOf (fullL (k + 1))) := by rw [fullL_len, fullL_succ, cellsOf_snoc]; exact hown'
        clear hown' hgrow hown
        go_roundw
        case rel => exact ⟨k + 1, by go_num, by omega, R2, R1⟩
        case measure => simp [intOf]; omega
      · obtain rfl : k = 2001 := by omega
        have hbw := hb1.trans (hb.mono hb1.size)
        have hTab : Tab wr u4 (fullL 2001) := Tab.own (by rw [fullL_len]; exact hown)
        obtain ⟨hg', hgb'⟩ := HGb.out wr hbw
        have HB := full_build 2001 u4 wr p hg' hgb' hTab (by omega)
        rw [build_big 2001 (by omega)] at HB
        have HBu := Hid.mk' HB
        have HC : Hid (∀ W, Below wr.heap.size wr W → Calls Tryd.prog 13 #[u4] W fun e w' => ∃ fv, e = .returned fv ∧ Flt w' fv W.heap.size 0 (p 18) ∧ Below W.heap.size W w') := fun W h => by
          refine (check_any u4 (fullL 2001) W p (hg'.below h) (hTab.below h) (by rw [fullL_len]; omega)).mono ?_
          rw [chk_big 2001 (by omega)]
          rintro e w' ⟨fv, rfl, hs | ⟨-, hs⟩, hb⟩
          · simp at hs
          · exact ⟨fv, rfl, hs, hb⟩
        have HIs : Hid (∀ W fv B, Below wr.heap.size wr W → Flt W fv B 0 (p 18) → Calls Tryd.prog 12 #[fv, .int .i64 0, .int .i64 18] W fun e w' => e = .returned (.bool true) ∧ Below W.heap.size W w') := fun W fv B h hf => lawIs_fault fv B 0 18 W p (hg'.below h) (.inr (.inr (.inr (.inr (.inr rfl))))) hf
        obtain ⟨sa, sc, hsv⟩ : ∃ sa sc, u4 = .slice sa 2001 sc := by obtain ⟨sa, sc, e, -⟩ := hTab; exact ⟨sa, sc, by rw [e, fullL_len]⟩
        subst hsv
        clear HB hTab hown hg' hgb'
        go_wp2_with fail
        refine HBu.out.mono ?_
        rintro e w2 ⟨rv, fv, rfl, ht2, hs2, hb2⟩
        obtain ⟨ra, rc, rfl, -⟩ := ht2
        rcases hs2 with ⟨hs2, -⟩ | ⟨-, hs2⟩
        · simp at hs2
        have HI2 := Hid.mk' (HIs.out w2 fv _ hb2 hs2)
        obtain ⟨fb, -, rfl, -, -⟩ := hs2
        go_wp2_with fail
        refine HI2.out.mono ?_
        rintro e w3 ⟨rfl, hb3⟩
        have hb23 := hb2.trans (hb3.mono hb2.size)
        go_wp2_with fail
        refine (HC.out w3 hb23).mono ?_
        rintro e w4 ⟨fv4, rfl, hf4, hb4⟩
        have hb24 := hb23.trans (hb4.mono hb23.size)
        have HI4 := Hid.mk' (HIs.out w4 fv4 _ hb24 hf4)
        obtain ⟨fb4, -, rfl, -, -⟩ := hf4
        go_wp2_with fail
        refine HI4.out.mono ?_
        rintro e w5 ⟨rfl, hb5⟩
        have hb25 := hb24.trans (hb5.mono hb24.size)
        go_wp2
        go_ret
        exact ⟨rfl, hbw.trans (hb25.mono hbw.size)⟩
end Go.Proofs.YthheplgpjhhbmaaDoor

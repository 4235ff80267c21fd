/-
  What is proved here: what follows, Join and Only answer at a table.
-/
import Derived.Test.YthheplgpjhhbmaaDoorJ0
import Derived.Deep.RegionHeld3
namespace Go.Proofs.YthheplgpjhhbmaaDoor
open Go.RowKit

set_option maxHeartbeats 1000000 in
theorem follows_any (r q : Rg) (w : World) (hr : r.may = true) (hq : q.may = true) :
    Calls Tryd.prog 30 #[r.v, q.v] w fun e w' => e = .returned (.bool (goesOn r q)) ∧ Below w.heap.size w w' := by
  obtain ⟨r1, r2, r3, r4, r5⟩ := (r.may_iff).1 hr
  obtain ⟨q1, q2, q3, q4, q5⟩ := (q.may_iff).1 hq
  have HB : Hid (∀ o o' : Obj, Below w.heap.size w ((w.alloc o).alloc o')) := fun o o' => ((Below.refl _ w).alloc (Nat.le_refl _) _).alloc (by simp) _
  unfold goesOn Rg.v
  clear hr hq
  by_cases h1 : r.lo = q.hi + 1
  · by_cases h2 : r.val = q.val
    · rw [decide_eq_true h1, decide_eq_true h2]
      have e1 : (r.lo == q.hi + 1) = true := by simpa using h1
      have e2 : (r.val == q.val) = true := by simpa using h2
      clear h1 h2
      go_enter Tryd.func30, Tryd.ntmps30
      go_wp2
      go_ret
      exact ⟨rfl, HB.out _ _⟩
    · rw [decide_eq_true h1, decide_eq_false h2]
      have e1 : (r.lo == q.hi + 1) = true := by simpa using h1
      have e2 : (r.val == q.val) = false := by simpa using h2
      clear h1 h2
      go_enter Tryd.func30, Tryd.ntmps30
      go_wp2
      go_ret
      exact ⟨rfl, HB.out _ _⟩
  · rw [decide_eq_false h1]
    have e1 : (r.lo == q.hi + 1) = false := by simpa using h1
    clear h1
    go_enter Tryd.func30, Tryd.ntmps30
    go_wp2
    go_ret
    exact ⟨rfl, HB.out _ _⟩
set_option maxRecDepth 20000 in
set_option maxHeartbeats 2000000 in
theorem only_any (v : Value) (l : List Rg) (val : Int) (w : World) (hT : Tab w v l) (hl : l.length ≤ 2147483648) :
    Calls Tryd.prog 20 #[v, .int .i64 val] w fun e w' => ∃ v', e = .returned v' ∧ Tab w' v' (onlyL l val) ∧ Below w.heap.size w w' := by
  obtain ⟨i0, hi, hz0, hz1, hz2⟩ := info_parts Tryd.infoRange
  obtain ⟨a, cap, rfl, hT⟩ := hT
  have HT := Hid.mk' hT
  clear hT
  go_enter Tryd.func20, Tryd.ntmps20
  go_wp2
  go_loopw [5, 10] (fun x y wr => ∃ (k : Nat) (acc : List Rg), y = .int .i64 k ∧ k ≤ l.length ∧ wr.ownsRow w.heap.size 37 3 x acc.length (cellsOf acc) ∧ acc.length ≤ k ∧ Hid (acc = onlyL (l.take k) val) ∧ Below w.heap.size w wr) (fun _ y _ => l.length - (intOf y).toNat)
  case atStart => exact ⟨0, [], rfl, Nat.zero_le _, World.ownsRow_nil _ _ _ _, by simp, Hid.mk' rfl, Below.refl _ _⟩
  case round =>
    obtain ⟨k, acc, rfl, hk, hown, hak, hacc, hb⟩ := hrel
    by_cases hlt : k < l.length
    · obtain ⟨b, off, rfl, hc⟩ := HT.out k hlt
      obtain ⟨d0, d1, d2⟩ := three_of (w := wr) (b := b) (o := off + k * 3) (r := l.getD k default) (fun j hj => by rw [← hc j hj]; exact hb.cell (p := ⟨b, off + k * 3 + j, none⟩) (lt_of_cell (hc 0 (by omega))))
      clear hc
      have hsz := hb.size
      have HS : Hid (onlyL (l.take (k + 1)) val = acc ++ (if (l.getD k default).val = val then [l.getD k default] else [])) := by show _ = _; rw [take_snoc hlt, onlyL_snoc, hacc.out]
      generalize l.getD k default = q at d0 d1 d2 HS
      by_cases hv : q.val = val
      · rw [if_pos hv] at HS
        have e1 : (q.val == val) = true := by simpa using hv
        clear hv
        go_wp2_with (at_builtin; refine wpList_append_own _ rfl _ _ 22 rfl w.heap.size 37 i0 (.agg #[.int .i32 0, .int .i32 0, .int .i64 0]) 3 16 Tryd.underlying22 hi hz0 hz1 hz2 rfl (by decide) _ _ _ rfl ((hown.alloc _).alloc _) ⟨wr.heap.size + 1, 0, none⟩ 1 1 [.int .i32 q.lo, .int .i32 q.hi, .int .i64 q.val] rfl rfl (cells_new1 _ _ _ _) (by intro u hu; simp at hu; rcases hu with rfl | rfl | rfl <;> rfl) (by unfold maxLen; omega) (by omega) (by simp; omega) ?_; intro v' w3 hown' hgrow _)
        have R1 : Below w.heap.size w w3 := ((hb.alloc hsz _).alloc (by simp; omega) _).grown hgrow (by simp; omega) (fun j hj => (hown.lt j hj).1)
        have R2 : w3.ownsRow w.heap.size 37 3 v' (acc ++ [q]).length (cellsOf (acc ++ [q])) := by rw [cellsOf_snoc]; simpa [Rg.cells] using hown'
        clear hown' hgrow hown
        go_roundw
        case rel => exact ⟨k + 1, acc ++ [q], by go_num, by omega, R2, by simp; omega, Hid.mk' HS.out.symm, R1⟩
        case measure => simp [intOf]; omega
      · rw [if_neg hv, List.append_nil] at HS
        have e1 : (q.val == val) = false := by simpa using hv
        clear hv
        go_wp2
        go_roundw
        case rel => exact ⟨k + 1, acc, by go_num, by omega, hown.alloc _, by omega, Hid.mk' HS.out.symm, hb.alloc hsz _⟩
        case measure => simp [intOf]; omega
    · obtain rfl : k = l.length := by omega
      have hT2 := Hid.mk' (Tab.own hown)
      rcases hown.2 with ⟨rfl, h0⟩ | ⟨g', cap', cu, rfl, -, -⟩
      all_goals
        go_wp2
        go_ret
        exact ⟨_, rfl, by have e : onlyL l val = acc := (by have := hacc.out; rw [List.take_length] at this; exact this.symm); rw [e]; exact hT2.out, hb⟩
end Go.Proofs.YthheplgpjhhbmaaDoor

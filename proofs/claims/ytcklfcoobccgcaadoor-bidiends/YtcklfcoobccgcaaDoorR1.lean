/-
  What is proved here: what mayBe and faultOf answer, and the reference's May.
-/
import Derived.Test.YtcklfcoobccgcaaDoorBase
import Derived.Test.YtcklfcoobccgcaaDoorR0
namespace Go.Proofs.YtcklfcoobccgcaaDoor
open Go.RowKit

/-- a slice value that holds ranges -/
def Tab (w : World) (v : Value) (l : List Rg) : Prop :=
  ∃ a cap, v = .slice a l.length cap ∧ ∀ j, j < l.length → ∃ b off, a = some ⟨b, off, none⟩ ∧ ∀ i, i < 3 → w.cell? ⟨b, off + j * 3 + i, none⟩ = (l.getD j default).cells[i]?
theorem Tab.below {w w' : World} {v : Value} {l : List Rg} (h : Tab w v l) (hb : Below w.heap.size w w') : Tab w' v l := by
  obtain ⟨a, cap, rfl, h⟩ := h
  refine ⟨a, cap, rfl, fun j hj => ?_⟩
  obtain ⟨b, off, rfl, hc⟩ := h j hj
  refine ⟨b, off, rfl, fun i hi => ?_⟩
  rw [← hc i hi]
  have h0 := hc 0 (by omega)
  exact hb.cell (p := ⟨b, off + j * 3 + i, none⟩) (by have := lt_of_cell (h0.trans (by rfl)); exact this)
theorem three_of {w : World} {b o : Nat} {r : Rg} (h : ∀ i, i < 3 → w.cell? ⟨b, o + i, none⟩ = r.cells[i]?) :
    w.cell? ⟨b, o, none⟩ = some (.int .i32 r.lo) ∧ w.cell? ⟨b, o + 1, none⟩ = some (.int .i32 r.hi) ∧ w.cell? ⟨b, o + 2, none⟩ = some (.int .i64 r.val) :=
  ⟨h 0 (by omega), h 1 (by omega), h 2 (by omega)⟩

set_option maxHeartbeats 1000000 in
theorem mayBe_any (r : Rg) (w : World) :
    Calls Tryd.prog 66 #[r.v] w fun e w' => e = .returned (.bool r.may) ∧ Below w.heap.size w w' := by
  obtain ⟨m, hm⟩ : ∃ m, r.may = m := ⟨_, rfl⟩
  have hiff := r.may_iff
  rw [hm] at hiff ⊢
  clear hm
  obtain ⟨lo, hi, vl⟩ := r
  unfold Rg.v
  simp only [] at hiff ⊢
  have hc : (lo < 0 ∧ m = false) ∨ (0 ≤ lo ∧ hi < lo ∧ m = false) ∨ (0 ≤ lo ∧ lo ≤ hi ∧ 1114111 < hi ∧ m = false) ∨ (0 ≤ lo ∧ lo ≤ hi ∧ hi ≤ 1114111 ∧ vl < 0 ∧ m = false) ∨ (0 ≤ lo ∧ lo ≤ hi ∧ hi ≤ 1114111 ∧ 0 ≤ vl ∧ 999999 < vl ∧ m = false) ∨ (0 ≤ lo ∧ lo ≤ hi ∧ hi ≤ 1114111 ∧ 0 ≤ vl ∧ vl ≤ 999999 ∧ m = true) := by
    have hF : ¬ (0 ≤ lo ∧ lo ≤ hi ∧ hi ≤ 1114111 ∧ 0 ≤ vl ∧ vl ≤ 999999) → m = false := fun h => by
      cases m
      · rfl
      · exact absurd (hiff.1 rfl) h
    rcases Int.lt_or_le lo 0 with h1 | h1
    · exact .inl ⟨h1, hF (by omega)⟩
    rcases Int.lt_or_le hi lo with h2 | h2
    · exact .inr (.inl ⟨h1, h2, hF (by omega)⟩)
    rcases Int.lt_or_le 1114111 hi with h3 | h3
    · exact .inr (.inr (.inl ⟨h1, h2, h3, hF (by omega)⟩))
    rcases Int.lt_or_le vl 0 with h4 | h4
    · exact .inr (.inr (.inr (.inl ⟨h1, h2, h3, h4, hF (by omega)⟩)))
    rcases Int.lt_or_le 999999 vl with h5 | h5
    · exact .inr (.inr (.inr (.inr (.inl ⟨h1, h2, h3, h4, h5, hF (by omega)⟩))))
    exact .inr (.inr (.inr (.inr (.inr ⟨h1, h2, h3, h4, h5, hiff.2 ⟨h1, h2, h3, h4, h5⟩⟩))))
  clear hiff
  rcases hc with ⟨h1, rfl⟩ | ⟨h1, h2, rfl⟩ | ⟨h1, h2, h3, rfl⟩ | ⟨h1, h2, h3, h4, rfl⟩ | ⟨h1, h2, h3, h4, h5, rfl⟩ | ⟨h1, h2, h3, h4, h5, rfl⟩
  all_goals
    go_enter Tryd.func66, Tryd.ntmps66
    go_wp2
    go_ret
    exact ⟨ret_bool (by first | rfl | (simp; done) | (simp; omega)), (Below.refl _ _).alloc (Nat.le_refl _) _⟩
set_option maxHeartbeats 1000000 in
theorem refMay_any (r : Rg) (w : World) :
    Calls Tryd.prog 57 #[r.v] w fun e w' => e = .returned (.bool r.may) ∧ Below w.heap.size w w' := by
  obtain ⟨m, hm⟩ : ∃ m, r.may = m := ⟨_, rfl⟩
  have hiff := r.may_iff
  rw [hm] at hiff ⊢
  clear hm
  obtain ⟨lo, hi, vl⟩ := r
  unfold Rg.v
  simp only [] at hiff ⊢
  have hc : (lo < 0 ∧ m = false) ∨ (0 ≤ lo ∧ hi < lo ∧ m = false) ∨ (0 ≤ lo ∧ lo ≤ hi ∧ 1114111 < hi ∧ m = false) ∨ (0 ≤ lo ∧ lo ≤ hi ∧ hi ≤ 1114111 ∧ vl < 0 ∧ m = false) ∨ (0 ≤ lo ∧ lo ≤ hi ∧ hi ≤ 1114111 ∧ 0 ≤ vl ∧ 999999 < vl ∧ m = false) ∨ (0 ≤ lo ∧ lo ≤ hi ∧ hi ≤ 1114111 ∧ 0 ≤ vl ∧ vl ≤ 999999 ∧ m = true) := by
    have hF : ¬ (0 ≤ lo ∧ lo ≤ hi ∧ hi ≤ 1114111 ∧ 0 ≤ vl ∧ vl ≤ 999999) → m = false := fun h => by
      cases m
      · rfl
      · exact absurd (hiff.1 rfl) h
    rcases Int.lt_or_le lo 0 with h1 | h1
    · exact .inl ⟨h1, hF (by omega)⟩
    rcases Int.lt_or_le hi lo with h2 | h2
    · exact .inr (.inl ⟨h1, h2, hF (by omega)⟩)
    rcases Int.lt_or_le 1114111 hi with h3 | h3
    · exact .inr (.inr (.inl ⟨h1, h2, h3, hF (by omega)⟩))
    rcases Int.lt_or_le vl 0 with h4 | h4
    · exact .inr (.inr (.inr (.inl ⟨h1, h2, h3, h4, hF (by omega)⟩)))
    rcases Int.lt_or_le 999999 vl with h5 | h5
    · exact .inr (.inr (.inr (.inr (.inl ⟨h1, h2, h3, h4, h5, hF (by omega)⟩))))
    exact .inr (.inr (.inr (.inr (.inr ⟨h1, h2, h3, h4, h5, hiff.2 ⟨h1, h2, h3, h4, h5⟩⟩))))
  clear hiff
  rcases hc with ⟨h1, rfl⟩ | ⟨h1, h2, rfl⟩ | ⟨h1, h2, h3, rfl⟩ | ⟨h1, h2, h3, h4, rfl⟩ | ⟨h1, h2, h3, h4, h5, rfl⟩ | ⟨h1, h2, h3, h4, h5, rfl⟩
  all_goals
    go_enter Tryd.func57, Tryd.ntmps57
    go_wp2
    go_ret
    exact ⟨ret_bool (by first | rfl | (simp; done) | (simp; omega)), (Below.refl _ _).alloc (Nat.le_refl _) _⟩
/-- the value of a named error -/
def nam (p : Nat → Addr) (c : Nat) : Value := if c = 0 then .nilIface else .iface 117 (.pointer (some (p c)))
set_option maxHeartbeats 1000000 in
theorem faultOf_any (v : Value) (l : List Rg) (i : Nat) (w : World) (p : Nat → Addr) (hg : Gl p w) (ht : Tab w v l) (hi : i < l.length) (hl : l.length ≤ 2147483648) :
    Calls Tryd.prog 65 #[v, .int .i64 i] w fun e w' => e = .returned (nam p (codeAt l i)) ∧ Below w.heap.size w w' := by
  obtain ⟨a, cap, rfl, ht⟩ := ht
  obtain ⟨b, off, rfl, hc⟩ := ht i hi
  have HC := Hid.mk' (fun w' (hb : Below w.heap.size w w') => three_of (w := w') (b := b) (o := off + i * 3) (r := l.getD i default) (fun j hj => by rw [← hc j hj]; exact hb.cell (p := ⟨b, off + i * 3 + j, none⟩) (lt_of_cell (hc 0 (by omega)))))
  have HM : Hid (Calls Tryd.prog 66 #[(l.getD i default).v] w fun e w' => _) := mayBe_any (l.getD i default) w
  obtain ⟨c0, c1, c2⟩ := HC.out w (Below.refl _ _)
  have g4 := hg.g4
  have g6 := hg.g6
  have HG := Hid.mk' hg
  have HT := Hid.mk' ht
  have hcode : codeAt l i = if (l.getD i default).may = false then 4 else if 0 < i ∧ (l.getD i default).lo ≤ (l.getD (i - 1) default).hi then 6 else 0 := rfl
  clear hg ht
  generalize hr : l.getD i default = r at *
  generalize codeAt l i = c at *
  unfold Rg.v at HM
  clear hc
  cases hm : r.may
  · rw [hm] at hcode HM
    simp at hcode
    subst hcode
    clear g6
    go_enter Tryd.func65, Tryd.ntmps65
    go_wp2_with fail
    refine HM.out.mono ?_
    rintro e w1 ⟨rfl, hb⟩
    have g4' := (hb.cell (lt_of_cell g4)).trans g4
    go_wp2
    go_ret
    exact ⟨rfl, hb⟩
  · rw [hm] at hcode HM
    clear g4
    by_cases hi0 : i = 0
    · subst hi0
      simp only [Nat.zero_mul, Nat.add_zero] at c0 c1 c2
      simp at hcode
      subst hcode
      clear g6
      go_enter Tryd.func65, Tryd.ntmps65
      go_wp2_with fail
      refine HM.out.mono ?_
      rintro e w1 ⟨rfl, hb⟩
      go_wp2
      go_region
      go_wp2
      go_ret
      exact ⟨rfl, hb.drew⟩
    · obtain ⟨b2, off2, e2, hc2⟩ := HT.out (i - 1) (by omega)
      obtain ⟨rfl, rfl⟩ : b = b2 ∧ off = off2 := by simpa using e2
      have HC2 := Hid.mk' (fun w' (hb : Below w.heap.size w w') => three_of (w := w') (b := b) (o := off + (i - 1) * 3) (r := l.getD (i - 1) default) (fun j hj => by rw [← hc2 j hj]; exact hb.cell (p := ⟨b, off + (i - 1) * 3 + j, none⟩) (lt_of_cell (hc2 0 (by omega)))))
      clear hc2 e2
      generalize l.getD (i - 1) default = q at *
      obtain ⟨k, rfl⟩ : ∃ k, i = k + 1 := ⟨i - 1, by omega⟩
      simp only [Nat.add_sub_cancel] at HC2
      by_cases hle : r.lo ≤ q.hi
      · rw [if_neg (by simp), if_pos ⟨by omega, hle⟩] at hcode
        subst hcode
        go_enter Tryd.func65, Tryd.ntmps65
        go_wp2_with fail
        refine HM.out.mono ?_
        rintro e w1 ⟨rfl, hb⟩
        have g6' := (hb.cell (lt_of_cell g6)).trans g6
        obtain ⟨d0, d1, d2⟩ := HC.out w1 hb
        obtain ⟨q0, q1, q2⟩ := HC2.out w1 hb
        clear c0 c1 c2
        go_wp2
        go_region
        go_wp2
        go_ret
        exact ⟨rfl, hb.drew⟩
      · rw [if_neg (by simp), if_neg (by omega)] at hcode
        subst hcode
        clear g6
        go_enter Tryd.func65, Tryd.ntmps65
        go_wp2_with fail
        refine HM.out.mono ?_
        rintro e w1 ⟨rfl, hb⟩
        obtain ⟨d0, d1, d2⟩ := HC.out w1 hb
        obtain ⟨q0, q1, q2⟩ := HC2.out w1 hb
        clear c0 c1 c2
        go_wp2
        go_region
        go_wp2
        go_ret
        exact ⟨rfl, hb.drew⟩
end Go.Proofs.YtcklfcoobccgcaaDoor

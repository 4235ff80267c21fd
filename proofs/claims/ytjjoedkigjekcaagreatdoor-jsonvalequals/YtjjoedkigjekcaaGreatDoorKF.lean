/-
  What is proved here: what slices.Clone answers at values and at members.
-/
import Derived.Test.YtjjoedkigjekcaaGreatDoorKC
namespace Go.Proofs.YtjjoedkigjekcaaGreatDoor
open Go.RowKit

theorem Tryz.infoMember12 : (Tryz.prog.info? 43).map (fun i => (i.zero, i.size, i.bytes)) = some (some (.agg #[.string ⟨#[]⟩, .int .i64 0, .string ⟨#[]⟩, .slice none 0 0, .slice none 0 0]), 5, 88) := by kernel_rfl
theorem own_empty (w : World) (T : TypeId) (z : Nat) : (w.alloc (.cells #[] T)).ownsRow w.heap.size T z (.slice (some ⟨w.heap.size, 0, none⟩) 0 0) 0 [] :=
  World.ownsRow_made w #[] 0 (Nat.le_refl _) (Nat.zero_le _) (by simp)
/-- cells that lie one behind the other from a slice's address on -/
def RowAt (w : World) (a : Option Addr) (xs : List Value) : Prop := ∀ j u, xs[j]? = some u → ∃ ba oa, a = some ⟨ba, oa, none⟩ ∧ w.cell? ⟨ba, oa + j, none⟩ = some u
theorem RowAt.addr {w : World} {ad : Addr} {xs : List Value} (h : RowAt w (some ad) xs) (w' : World) (hb : Below w.heap.size w w') : ∀ j u, xs[j]? = some u → w'.cell? (ad.add j) = some u := by
  intro j u hj
  obtain ⟨ba, oa, e, hc⟩ := h j u hj
  obtain rfl := Option.some.inj e
  rw [Addr.add_lit]
  exact (hb.cell (p := ⟨ba, oa + j, none⟩) (lt_of_cell hc)).trans hc
set_option maxRecDepth 20000 in
set_option maxHeartbeats 2000000 in
theorem cloneV_any (a : Option Addr) (n c : Nat) (xs : List Value) (w : World) (hx : xs.length = n * 4) (hR : RowAt w a xs) (h1 : ∀ u ∈ xs, u.oneCell' = true) (hn : n ≤ 100000) :
    Calls Tryz.prog 67 #[.slice a n c] w fun e w' => ∃ v', e = .returned v' ∧ w'.ownsRow w.heap.size 25 4 v' n xs ∧ Below w.heap.size w w' := by
  obtain ⟨i0, hi, hz0, hz1, hz2⟩ := info_parts Tryz.infoValue
  have q24 : ∀ (w : World) (a : Option Addr) (n c n' c' : Nat), (binOp .eql 22 (.slice a n c) (.slice none n' c')).run Tryz.prog w = .ok (.bool a.isNone) w := fun w a n c n' c' => Lib.run_eql_slice_nil w _ _ a n c n' c' Tryz.underlying22
  cases a with
  | none =>
    have h0 : n = 0 := by
      rcases Nat.eq_zero_or_pos n with h | h
      · exact h
      · obtain ⟨ba, oa, e, -⟩ := hR 0 _ (List.getElem?_eq_getElem (by omega))
        cases e
    subst h0
    obtain rfl : xs = [] := List.eq_nil_of_length_eq_zero (by omega)
    clear hR hi hz0 hz1 hz2
    go_enter Tryz.func67, Tryz.ntmps67
    go_wp2
    go_ret
    exact ⟨_, rfl, World.ownsRow_nil _ _ _ _, Below.refl _ _⟩
  | some ad =>
    have HO := Hid.mk' (own_empty w 25 4)
    have hb0 : Below w.heap.size w (w.alloc (.cells #[] 25)) := (Below.refl _ w).alloc (Nat.le_refl _) _
    have HC := Hid.mk' (hR.addr _ hb0)
    have HX := Hid.mk' hx
    have H1 := Hid.mk' h1
    have HB := Hid.mk' hb0
    clear hR hx h1 hb0
    go_enter Tryz.func67, Tryz.ntmps67
    go_wp2_with (at_builtin; (refine wpList_append_own _ rfl _ _ 22 rfl w.heap.size 25 i0 (.agg #[.int .i64 0, .string ⟨#[]⟩, .slice none 0 0, .slice none 0 0]) 4 72 Tryz.underlying22 hi hz0 hz1 hz2 rfl (by decide) _ _ _ rfl HO.out ad n c xs rfl HX.out HC.out H1.out (by unfold maxLen; simp; omega) (by simp; omega) (by simp) ?_; intro v' w2 hown' hgrow _))
    go_ret
    refine ⟨_, rfl, by simpa using hown', HB.out.grown hgrow (by simp) (fun j hj => by have := (HO.out.lt j hj).1; omega)⟩
set_option maxRecDepth 20000 in
set_option maxHeartbeats 2000000 in
theorem cloneM_any (a : Option Addr) (n c : Nat) (xs : List Value) (w : World) (hx : xs.length = n * 5) (hR : RowAt w a xs) (h1 : ∀ u ∈ xs, u.oneCell' = true) (hn : n ≤ 100000) :
    Calls Tryz.prog 63 #[.slice a n c] w fun e w' => ∃ v', e = .returned v' ∧ w'.ownsRow w.heap.size 43 5 v' n xs ∧ Below w.heap.size w w' := by
  obtain ⟨i0, hi, hz0, hz1, hz2⟩ := info_parts Tryz.infoMember12
  have q24 : ∀ (w : World) (a : Option Addr) (n c n' c' : Nat), (binOp .eql 23 (.slice a n c) (.slice none n' c')).run Tryz.prog w = .ok (.bool a.isNone) w := fun w a n c n' c' => Lib.run_eql_slice_nil w _ _ a n c n' c' Tryz.underlying23
  cases a with
  | none =>
    have h0 : n = 0 := by
      rcases Nat.eq_zero_or_pos n with h | h
      · exact h
      · obtain ⟨ba, oa, e, -⟩ := hR 0 _ (List.getElem?_eq_getElem (by omega))
        cases e
    subst h0
    obtain rfl : xs = [] := List.eq_nil_of_length_eq_zero (by omega)
    clear hR hi hz0 hz1 hz2
    go_enter Tryz.func63, Tryz.ntmps63
    go_wp2
    go_ret
    exact ⟨_, rfl, World.ownsRow_nil _ _ _ _, Below.refl _ _⟩
  | some ad =>
    have HO := Hid.mk' (own_empty w 43 5)
    have hb0 : Below w.heap.size w (w.alloc (.cells #[] 43)) := (Below.refl _ w).alloc (Nat.le_refl _) _
    have HC := Hid.mk' (hR.addr _ hb0)
    have HX := Hid.mk' hx
    have H1 := Hid.mk' h1
    have HB := Hid.mk' hb0
    clear hR hx h1 hb0
    go_enter Tryz.func63, Tryz.ntmps63
    go_wp2_with (at_builtin; (refine wpList_append_own _ rfl _ _ 23 rfl w.heap.size 43 i0 (.agg #[.string ⟨#[]⟩, .int .i64 0, .string ⟨#[]⟩, .slice none 0 0, .slice none 0 0]) 5 88 Tryz.underlying23 hi hz0 hz1 hz2 rfl (by decide) _ _ _ rfl HO.out ad n c xs rfl HX.out HC.out H1.out (by unfold maxLen; simp; omega) (by simp; omega) (by simp) ?_; intro v' w2 hown' hgrow _))
    go_ret
    refine ⟨_, rfl, by simpa using hown', HB.out.grown hgrow (by simp) (fun j hj => by have := (HO.out.lt j hj).1; omega)⟩
end Go.Proofs.YtjjoedkigjekcaaGreatDoor

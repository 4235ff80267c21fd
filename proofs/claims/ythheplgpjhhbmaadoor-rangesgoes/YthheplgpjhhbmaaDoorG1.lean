/-
  What is proved here: what slices.Clone answers at ranges; what All answers at a table.
-/
import Derived.Test.YthheplgpjhhbmaaDoorLawF
namespace Go.Proofs.YthheplgpjhhbmaaDoor
open Go.RowKit

set_option maxRecDepth 20000 in
set_option maxHeartbeats 1000000 in
theorem clone_any (v : Value) (l : List Rg) (w : World) (hT : Tab w v l) (hl : l.length ≤ 2147483648) :
    Calls Tryd.prog 31 #[v] w fun e w' => ∃ a' cap', e = .returned (.slice a' l.length cap') ∧ Tab w' (.slice a' l.length cap') l ∧ (∀ b, (Value.slice a' l.length cap').ownBlock = some b → w.heap.size ≤ b) ∧ Below w.heap.size w w' := by
  obtain ⟨i0, hi, hz0, hz1, hz2⟩ := info_parts Tryd.infoRange
  have q22 : ∀ (w : World) (a : Option Addr) (n c n' c' : Nat), (binOp .eql 22 (.slice a n c) (.slice none n' c')).run Tryd.prog w = .ok (.bool a.isNone) w := fun w a n c n' c' => Lib.run_eql_slice_nil w _ _ a n c n' c' Tryd.underlying22
  obtain ⟨a, cap, rfl, hT⟩ := hT
  cases a with
  | none =>
    have h0 : l = [] := by
      cases l with
      | nil => rfl
      | cons r t => obtain ⟨b, off, e, -⟩ := hT 0 (by simp); cases e
    subst h0
    go_enter Tryd.func31, Tryd.ntmps31
    go_wp2
    go_ret
    exact ⟨none, 0, rfl, Tab.nil _ _ _, fun b h => by simp [Value.ownBlock] at h, Below.refl _ _⟩
  | some ad =>
    have hnews : Hid (∀ j u, (cellsOf l)[j]? = some u → w.cell? (ad.add j) = some u) := fun j u h => by
      have hj : j < (cellsOf l).length := by
        rcases Nat.lt_or_ge j (cellsOf l).length with g | g
        · exact g
        · rw [List.getElem?_eq_none g] at h; cases h
      rw [cellsOf_len] at hj
      obtain ⟨b, off, e, hc⟩ := hT (j / 3) (by omega)
      have hc := hc (j % 3) (Nat.mod_lt _ (by omega))
      rw [← cellsOf_at l (j / 3) (j % 3) (by omega) (Nat.mod_lt _ (by omega))] at hc
      have e3 : j / 3 * 3 + j % 3 = j := by omega
      rw [Nat.add_assoc, e3] at hc
      obtain rfl : ad = ⟨b, off, none⟩ := by simpa using e
      rw [Addr.add_lit, hc, h]
    have hone := Hid.mk' (cellsOf_one l)
    have hlen := Hid.mk' (cellsOf_len l)
    have hlt : Hid (∀ o : Obj, ∀ j u, (cellsOf l)[j]? = some u → (w.alloc o).cell? (ad.add j) = some u) := fun o j u h => by
      have h1 := hnews.out j u h
      rw [World.cell?_alloc_lt _ _ _ (by
        obtain ⟨b, off, s⟩ := ad
        rcases Nat.lt_or_ge (Addr.add ⟨b, off, s⟩ j).block w.heap.size with g | g
        · exact g
        · simp [World.cell?, Array.getElem?_eq_none g] at h1)]
      exact h1
    clear hT hnews
    go_enter Tryd.func31, Tryd.ntmps31
    go_wp2_with (at_builtin; refine wpList_append_own _ rfl _ _ 22 rfl w.heap.size 37 i0 (.agg #[.int .i32 0, .int .i32 0, .int .i64 0]) 3 16 Tryd.underlying22 hi hz0 hz1 hz2 rfl (by decide) _ 0 [] rfl (World.ownsRow_made w #[] 0 (Nat.le_refl _) (by unfold maxLen; omega) rfl) ad l.length cap (cellsOf l) rfl hlen.out (hlt.out _) hone.out (by unfold maxLen; omega) (by omega) (by simp) ?_; intro v' w3 hown' hgrow _)
    have R1 : Below w.heap.size w w3 := ((Below.refl _ w).alloc (Nat.le_refl _) _).grown hgrow (by simp) (fun j hj => by cases hj; exact Nat.le_refl _)
    have R2 : w3.ownsRow w.heap.size 37 3 v' l.length (cellsOf l) := by simpa using hown'
    have hT2 := Hid.mk' (Tab.own R2)
    have hO2 : Hid (∀ b, v'.ownBlock = some b → w.heap.size ≤ b) := fun b hb => (R2.lt b hb).1
    obtain ⟨a', c', rfl⟩ : ∃ a' c', v' = .slice a' l.length c' := by obtain ⟨a', c', e, -⟩ := hT2.out; exact ⟨a', c', e⟩
    clear hown' hgrow R2
    go_wp2
    go_ret
    exact ⟨_, _, rfl, hT2.out, hO2.out, R1⟩
theorem Tab.set_other {w : World} {v : Value} {l : List Rg} (h : Tab w v l) {b0 : Nat} (hne : ∀ b, v.ownBlock = some b → b ≠ b0) (u : Value) : Tab (w.setCell ⟨b0, 0, none⟩ u) v l := by
  obtain ⟨a, cap, rfl, h⟩ := h
  refine ⟨a, cap, rfl, fun j hj => ?_⟩
  obtain ⟨b, off, rfl, hc⟩ := h j hj
  refine ⟨b, off, rfl, fun i hi => ?_⟩
  rw [← hc i hi]
  exact World.cell?_of_block (heap_setCell_other w ⟨b0, 0, none⟩ b u (fun e => hne b rfl e))
set_option maxRecDepth 20000 in
set_option maxHeartbeats 1000000 in
theorem all_any (v : Value) (l : List Rg) (w : World) (p : Nat → Addr) (hg : Gl p w) (hT : Tab w v l) (hl : l.length ≤ 2147483648) (hx : (chk l).2 = 0) :
    Calls Tryd.prog 21 #[v] w fun e w' => ∃ a' cap', e = .returned (.func (.func 32) #[] #[.pointer (some ⟨w.heap.size, 0, none⟩)]) ∧ w'.cell? ⟨w.heap.size, 0, none⟩ = some (.slice a' l.length cap') ∧ Tab w' (.slice a' l.length cap') l ∧ (∀ b, (Value.slice a' l.length cap').ownBlock = some b → w.heap.size < b) ∧ Below w.heap.size w w' := by
  have hb0 : Below w.heap.size w (w.alloc (.cells #[.slice none 0 0] 22)) := (Below.refl _ w).alloc (Nat.le_refl _) _
  have HC : Hid (Calls Tryd.prog 13 #[v] (w.alloc (.cells #[.slice none 0 0] 22)) fun e w' => e = .returned .nilIface ∧ Below (w.heap.size + 1) (w.alloc (.cells #[.slice none 0 0] 22)) w') := by
    have := check_any v l _ p (hg.below hb0) (hT.below hb0) hl
    rw [World.size_alloc] at this
    refine this.mono ?_
    rintro e w' ⟨fv, rfl, hs | ⟨hs, -⟩, hb⟩
    · exact ⟨by rw [hs.2], hb⟩
    · exact absurd hx hs
  have HK : Hid (∀ w', Below w.heap.size w w' → _) := fun w' hb => clone_any v l w' (hT.below hb) hl
  obtain ⟨a, cap, rfl, -⟩ := hT
  clear hg hx
  go_enter Tryd.func21, Tryd.ntmps21
  go_wp2_with fail
  refine HC.out.mono ?_
  rintro e w1 ⟨rfl, hb1⟩
  have hbw1 : Below w.heap.size w w1 := hb0.trans (hb1.mono (Nat.le_succ _))
  have hc1 : w1.cell? ⟨w.heap.size, 0, none⟩ = some (.slice none 0 0) := (hb1.cell (p := ⟨w.heap.size, 0, none⟩) (Nat.lt_succ_self _)).trans (by simp)
  have hf1 : w1.frozen? ⟨w.heap.size, 0, none⟩ = false := by
    have := hb1.block w.heap.size (Nat.lt_succ_self _)
    rw [World.frozen?_of_block this]; simp
  go_wp2_with fail
  refine (HK.out w1 hbw1).mono ?_
  rintro e w2 ⟨a', c', rfl, ht2, hown2, hb2⟩
  have hlt1 := lt_of_cell hc1
  have hc2 := (hb2.cell (p := ⟨w.heap.size, 0, none⟩) hlt1).trans hc1
  have hf2 : w2.frozen? ⟨w.heap.size, 0, none⟩ = false := by rw [World.frozen?_of_block (hb2.block w.heap.size hlt1)]; exact hf1
  have hO2 : Hid (∀ b, (Value.slice a' l.length c').ownBlock = some b → w.heap.size < b) := fun b hb => Nat.lt_of_lt_of_le hlt1 (hown2 b hb)
  have HT3 := Hid.mk' (ht2.set_other (b0 := w.heap.size) (fun b hb => by have := hO2.out b hb; omega) (.slice a' l.length c'))
  have HC3 : Hid ((w2.setCell ⟨w.heap.size, 0, none⟩ (.slice a' l.length c')).cell? ⟨w.heap.size, 0, none⟩ = some (.slice a' l.length c')) := World.cell?_setCell_same _ _ _ hc2
  have hbw2 := hbw1.trans (hb2.mono hbw1.size)
  clear ht2 hown2 hc1 hf1
  go_wp2
  go_ret
  exact ⟨a', c', rfl, HC3.out, HT3.out, hO2.out, hbw2.setCell (p := ⟨w.heap.size, 0, none⟩) (Nat.le_refl _) _⟩
end Go.Proofs.YthheplgpjhhbmaaDoor

/-
  What is proved here: what slices.Clone answers at runes.
-/
import Derived.Test.YtojpkkbagcahdaaDoorS7
import Derived.Test.YtojpkkbagcahdaaDoorKB
import Derived.Shelf.SlicesE.Clone
namespace Go.Proofs.YtojpkkbagcahdaaDoor
open Go.RowKit Go.Sort

set_option maxRecDepth 20000 in
set_option maxHeartbeats 2000000 in
theorem clone_any (v : Value) (l : List Int) (w : World) (hT : Runes w v l) (hl : l.length ≤ 268435456) :
    Calls Tryd.prog 59 #[v] w fun e w' => ∃ v', e = .returned v' ∧ w'.ownsRow w.heap.size 21 1 v' l.length (l.map (Value.int .i32)) ∧ Below w.heap.size w w' := by
  obtain ⟨i0, hi, hz0, hz1, hz2⟩ := info_parts Tryd.infoRune
  have q24 : ∀ (w : World) (a : Option Addr) (n c n' c' : Nat), (binOp .eql 24 (.slice a n c) (.slice none n' c')).run Tryd.prog w = .ok (.bool a.isNone) w := fun w a n c n' c' => Lib.run_eql_slice_nil w _ _ a n c n' c' Tryd.underlying24
  obtain ⟨a, cap, rfl, hT⟩ := hT
  cases a with
  | none =>
    obtain rfl : l = [] := by
      cases l with
      | nil => rfl
      | cons x l =>
        obtain ⟨b, off, h, -⟩ := hT 0 (by simp)
        cases h
    clear hT hi hz0 hz1 hz2
    go_enter Tryd.func59, Tryd.ntmps59
    go_wp2
    go_ret
    exact ⟨_, rfl, World.ownsRow_nil _ _ _ _, Below.refl _ _⟩
  | some ad =>
    have HO := Hid.mk' (own_new w w.heap.size [] 21 (Nat.le_refl _) (by simp))
    have hb0 : Below w.heap.size w (w.alloc (.cells #[] 21)) := (Below.refl _ w).alloc (Nat.le_refl _) _
    have HC : Hid (∀ j u, (l.map (Value.int .i32))[j]? = some u → (w.alloc (.cells #[] 21)).cell? (ad.add j) = some u) := fun j u h => by
      have hj : j < l.length := by
        rcases Nat.lt_or_ge j l.length with g | g
        · exact g
        · rw [List.getElem?_eq_none (by simpa using g)] at h; cases h
      obtain ⟨b, off, e, hc⟩ := hT j hj
      obtain rfl : ad = ⟨b, off, none⟩ := by simpa using e
      rw [List.getElem?_map, List.getElem?_eq_getElem hj] at h
      simp only [Option.map_some, Option.some.injEq] at h
      have := (hb0.cell (p := ⟨b, off + j, none⟩) (lt_of_cell hc)).trans hc
      rw [Addr.add_lit]
      rw [this, ← h]
      simp [List.getD, List.getElem?_eq_getElem hj]
    have HB := Hid.mk' hb0
    obtain ⟨n, hn⟩ : ∃ n, l.length = n := ⟨_, rfl⟩
    have HN := Hid.mk' hn
    rw [hn] at hl ⊢
    clear hT hb0 hn
    generalize hvs : l.map (Value.int .i32) = vs at *
    have HV : Hid (vs.length = n ∧ ∀ u ∈ vs, u.oneCell' = true) := ⟨by rw [← hvs]; simpa using HN.out, by rw [← hvs]; exact ints_one .i32 l⟩
    clear hvs
    go_enter Tryd.func59, Tryd.ntmps59
    go_wp2_with (at_builtin; (refine wpList_append_own _ rfl _ _ 24 rfl w.heap.size 21 i0 (.int .i32 0) 1 4 Tryd.underlying24 hi hz0 hz1 hz2 rfl (by decide) _ _ _ rfl HO.out ad n cap vs rfl (by rw [HV.out.1]; simp) HC.out HV.out.2 (by unfold maxLen; simp; omega) (by simp; omega) (by simp) ?_; intro v' w2 hown' hgrow _))
    go_ret
    refine ⟨_, rfl, by simpa using hown', HB.out.grown hgrow (by simp) (fun j hj => by have := (HO.out.lt j hj).1; omega)⟩
end Go.Proofs.YtojpkkbagcahdaaDoor

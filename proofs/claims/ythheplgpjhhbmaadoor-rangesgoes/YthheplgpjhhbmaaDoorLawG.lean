/-
  What is proved here: that RangesGoes answers true at all ranges and every number.
-/
import Derived.Test.YthheplgpjhhbmaaDoorG3
import Derived.Deep.RegionHeld3
namespace Go.Proofs.YthheplgpjhhbmaaDoor
open Go.RowKit Go.Shelf
attribute [local go_sem] Oper.semAt_some

/-- what the loop keeps: the cells of n, last, good; the two boxed arguments -/
structure Has (B0 B5 : Nat) (lv : Value) (most : Int) (n : Int) (s : Bool × Int) (W : World) : Prop where
  c0 : W.cell? ⟨B0, 0, none⟩ = some lv
  c1 : W.cell? ⟨B0 + 1, 0, none⟩ = some (.int .i64 most)
  c5 : W.cell? ⟨B5, 0, none⟩ = some (.int .i64 n)
  c6 : W.cell? ⟨B5 + 1, 0, none⟩ = some (.int .i32 s.2)
  c7 : W.cell? ⟨B5 + 1 + 1, 0, none⟩ = some (.bool s.1)
  f5 : W.frozen? ⟨B5, 0, none⟩ = false
  f6 : W.frozen? ⟨B5 + 1, 0, none⟩ = false
  f7 : W.frozen? ⟨B5 + 1 + 1, 0, none⟩ = false
theorem Has.kept {B0 B5 : Nat} {lv : Value} {most n : Int} {s : Bool × Int} {W W' : World} {row : Option Nat} (h : Has B0 B5 lv most n s W) (hg : W.grownBy W' row) (hr : ∀ r, row = some r → ∃ o : Obj, W.heap[r]? = some o ∧ o.isCells = false) : Has B0 B5 lv most n s W' :=
  ⟨cell_kept h.c0 hg hr, cell_kept h.c1 hg hr, cell_kept h.c5 hg hr, cell_kept h.c6 hg hr, cell_kept h.c7 hg hr, (frozen_kept h.c5 hg hr).trans h.f5, (frozen_kept h.c6 hg hr).trans h.f6, (frozen_kept h.c7 hg hr).trans h.f7⟩
theorem set_other (W : World) (a b : Addr) (v : Value) (h : b.block ≠ a.block) : (W.setCell a v).cell? b = W.cell? b := World.cell?_of_block (heap_setCell_other W a b.block v h)
theorem has_set {B0 B5 : Nat} {lv : Value} {most n : Int} {s : Bool × Int} {W : World} (h : Has B0 B5 lv most n s W) (hlt : B0 + 1 < B5) (n' : Int) (g : Bool) (x : Int) :
    ∃ W', ((W.setCell ⟨B5 + 1 + 1, 0, none⟩ (.bool g)).setCell ⟨B5 + 1, 0, none⟩ (.int .i32 x)).setCell ⟨B5, 0, none⟩ (.int .i64 n') = W' ∧ Has B0 B5 lv most n' (g, x) W' ∧ KeepsOthers W W' ∧ KeepC (fun b => b = B5 ∨ b = B5 + 1 ∨ b = B5 + 1 + 1) W W' ∧ W.heap.size ≤ W'.heap.size ∧ ∀ (C : Nat) (w : World), Below C w W → C ≤ B5 → Below C w W' := by
  refine ⟨_, rfl, ⟨?_, ?_, ?_, ?_, ?_, ?_, ?_, ?_⟩, ?_, ?_, by simp, ?_⟩
  · rw [set_other _ _ _ _ (by simp only []; omega), set_other _ _ _ _ (by simp only []; omega), set_other _ _ _ _ (by simp only []; omega)]; exact h.c0
  · rw [set_other _ _ _ _ (by simp only []; omega), set_other _ _ _ _ (by simp only []; omega), set_other _ _ _ _ (by simp only []; omega)]; exact h.c1
  · refine World.cell?_setCell_same _ _ _ (u := .int .i64 n) ?_
    rw [set_other _ _ _ _ (by simp only []; omega), set_other _ _ _ _ (by simp only []; omega)]; exact h.c5
  · rw [set_other _ _ _ _ (by simp only []; omega)]
    refine World.cell?_setCell_same _ _ _ (u := .int .i32 s.2) ?_
    rw [set_other _ _ _ _ (by simp only []; omega)]; exact h.c6
  · rw [set_other _ _ _ _ (by simp only []; omega), set_other _ _ _ _ (by simp only []; omega)]
    exact World.cell?_setCell_same _ _ _ h.c7
  · rw [World.frozen?_setCell, World.frozen?_setCell, World.frozen?_setCell]; exact h.f5
  · rw [World.frozen?_setCell, World.frozen?_setCell, World.frozen?_setCell]; exact h.f6
  · rw [World.frozen?_setCell, World.frozen?_setCell, World.frozen?_setCell]; exact h.f7
  · exact ((KeepsOthers.setCell _ _ _).trans (KeepsOthers.setCell _ _ _)).trans (KeepsOthers.setCell _ _ _)
  · intro a v hS hc
    obtain ⟨b, o, sp⟩ := a
    have hs : sp = none := World.cell?_spot hc
    subst hs
    have hS' : b ≠ B5 ∧ b ≠ B5 + 1 ∧ b ≠ B5 + 1 + 1 := ⟨fun e => hS (.inl e), fun e => hS (.inr (.inl e)), fun e => hS (.inr (.inr e))⟩
    rw [set_other _ _ _ _ (by simp only []; omega), set_other _ _ _ _ (by simp only []; omega), set_other _ _ _ _ (by simp only []; omega)]; exact hc
  · intro C w hb hC
    exact ((hb.setCell (p := ⟨B5 + 1 + 1, 0, none⟩) (Nat.le_trans hC (by simp only []; omega)) _).setCell (p := ⟨B5 + 1, 0, none⟩) (Nat.le_trans hC (by simp only []; omega)) _).setCell (p := ⟨B5, 0, none⟩) hC _
theorem one_new (W : World) (v : Value) (t : TypeId) : (W.alloc (.cells #[v] t)).cell? ⟨W.heap.size, 0, none⟩ = some v ∧ (W.alloc (.cells #[v] t)).frozen? ⟨W.heap.size, 0, none⟩ = false := by simp
theorem cell_up {W : World} {a : Addr} {v : Value} {o : Obj} (h : W.cell? a = some v) : (W.alloc o).cell? a = some v := cell_kept h (World.grownBy_alloc W o none) (fun r e => by cases e)
theorem frozen_up {W : World} {a : Addr} {v : Value} {o : Obj} (h : W.cell? a = some v) (hf : W.frozen? a = false) : (W.alloc o).frozen? a = false := (frozen_kept h (World.grownBy_alloc W o none) (fun r e => by cases e)).trans hf
theorem has_new (w2 : World) (B0 : Nat) (lv : Value) (most : Int) (h0 : w2.cell? ⟨B0, 0, none⟩ = some lv) (h1 : w2.cell? ⟨B0 + 1, 0, none⟩ = some (.int .i64 most)) :
    ∃ WA, ((w2.alloc (.cells #[.int .i64 0] 3)).alloc (.cells #[.int .i32 (-1)] 21)).alloc (.cells #[.bool true] 4) = WA ∧ Has B0 w2.heap.size lv most 0 (true, -1) WA ∧ Below w2.heap.size w2 WA ∧ WA.heap.size = w2.heap.size + 3 := by
  have hb : Below w2.heap.size w2 (((w2.alloc (.cells #[.int .i64 0] 3)).alloc (.cells #[.int .i32 (-1)] 21)).alloc (.cells #[.bool true] 4)) := (((Below.refl _ w2).alloc (Nat.le_refl _) _).alloc (by simp) _).alloc (by simp; omega) _
  have s5 : (w2.alloc (.cells #[.int .i64 0] 3)).cell? ⟨w2.heap.size, 0, none⟩ = some (.int .i64 0) ∧ (w2.alloc (.cells #[.int .i64 0] 3)).frozen? ⟨w2.heap.size, 0, none⟩ = false := by simp
  have s6 := one_new (w2.alloc (.cells #[.int .i64 0] 3)) (.int .i32 (-1)) 21
  have s7 := one_new ((w2.alloc (.cells #[.int .i64 0] 3)).alloc (.cells #[.int .i32 (-1)] 21)) (.bool true) 4
  rw [World.size_alloc] at s6
  rw [World.size_alloc, World.size_alloc] at s7
  exact ⟨_, rfl, ⟨(hb.cell (p := ⟨B0, 0, none⟩) (lt_of_cell h0)).trans h0, (hb.cell (p := ⟨B0 + 1, 0, none⟩) (lt_of_cell h1)).trans h1, cell_up (cell_up s5.1), cell_up s6.1, s7.1, frozen_up (cell_up s5.1) (frozen_up s5.1 s5.2), frozen_up s6.1 s6.2, s7.2⟩, hb, by simp⟩
set_option maxRecDepth 100000 in
set_option maxHeartbeats 4000000 in
theorem goes_any (w : World) (p : Nat → Addr) (hg : Gl p w) (hm : Ml w) (v : Value) (l : List Rg) (hT : Tab w v l) (hl : l.length ≤ maxLen) (most : Int) (_hr : (Lit.int .i64 most).wf = true) :
    Calls Tryd.prog 7 #[v, .int .i64 most] w fun e w' => e = .returned (.bool true) ∧ Below w.heap.size w w' := by
  obtain ⟨a, cap, hv, -⟩ := id hT
  subst hv
  obtain ⟨W0, hW0⟩ : ∃ W0, (w.alloc (.cells #[.slice a l.length cap] 22)).alloc (.cells #[.int .i64 most] 3) = W0 := ⟨_, rfl⟩
  have hb0 : Below w.heap.size w W0 := by rw [← hW0]; exact ((Below.refl _ w).alloc (Nat.le_refl _) _).alloc (by simp) _
  have hz0 : W0.heap.size = w.heap.size + 2 := by rw [← hW0]; simp
  obtain ⟨k0, k1⟩ : W0.cell? ⟨w.heap.size, 0, none⟩ = some (.slice a l.length cap) ∧ W0.cell? ⟨w.heap.size + 1, 0, none⟩ = some (.int .i64 most) := by rw [← hW0]; simp
  have HA := Hid.mk' (awake3_any W0 p (hg.below hb0) (hm.below hb0))
  have HKc : Hid (∀ W', Below W0.heap.size W0 W' → W'.cell? ⟨w.heap.size, 0, none⟩ = some (.slice a l.length cap) ∧ W'.cell? ⟨w.heap.size + 1, 0, none⟩ = some (.int .i64 most)) := fun W' hb => ⟨(hb.cell (p := ⟨w.heap.size, 0, none⟩) (lt_of_cell k0)).trans k0, (hb.cell (p := ⟨w.heap.size + 1, 0, none⟩) (lt_of_cell k1)).trans k1⟩
  have HR : Hid (∀ w', Below w.heap.size w w' → l.length ≤ 2147483648 → _) := fun w' hb h => right_any (.slice a l.length cap) l w' (hT.below hb) h
  unfold maxLen at hl
  by_cases hbig : 60 < l.length
  · clear hg hm hT k0 k1
    go_enter Tryd.func7, Tryd.ntmps7
    go_wp2_with fail
    refine HA.out.mono ?_
    rintro e w1 ⟨rfl, hb1⟩
    obtain ⟨e0, e1⟩ := HKc.out w1 hb1
    go_wp2
    go_ret
    exact ⟨rfl, hb0.trans (hb1.mono hb0.size)⟩
  have hl2 : l.length ≤ 2147483648 := by omega
  by_cases hx : (chk l).2 = 0
  rotate_left
  · rw [decide_eq_false hx] at HR
    clear hg hm hT k0 k1 hx
    go_enter Tryd.func7, Tryd.ntmps7
    go_wp2_with fail
    refine HA.out.mono ?_
    rintro e w1 ⟨rfl, hb1⟩
    obtain ⟨e0, e1⟩ := HKc.out w1 hb1
    go_wp2_with fail
    refine (HR.out w1 (hb0.trans (hb1.mono hb0.size)) hl2).mono ?_
    rintro e w2 ⟨rfl, hb2⟩
    have hbw := hb1.trans (hb2.mono hb1.size)
    obtain ⟨e0', e1'⟩ := HKc.out w2 hbw
    go_wp2
    go_ret
    exact ⟨rfl, hb0.trans (hbw.mono hb0.size)⟩
  rw [decide_eq_true hx] at HR
  by_cases hmo : most < 1 ∨ 200 < most
  · clear hg hm hT k0 k1 hx
    rcases hmo with hmo | hmo
    all_goals
      go_enter Tryd.func7, Tryd.ntmps7
      go_wp2_with fail
      refine HA.out.mono ?_
      rintro e w1 ⟨rfl, hb1⟩
      obtain ⟨e0, e1⟩ := HKc.out w1 hb1
      go_wp2_with fail
      refine (HR.out w1 (hb0.trans (hb1.mono hb0.size)) hl2).mono ?_
      rintro e w2 ⟨rfl, hb2⟩
      have hbw := hb1.trans (hb2.mono hb1.size)
      obtain ⟨e0', e1'⟩ := HKc.out w2 hbw
      go_wp2
      go_ret
      exact ⟨rfl, hb0.trans (hbw.mono hb0.size)⟩
  have hm1 : 1 ≤ most := by omega
  have hm2 : most ≤ 200 := by omega
  have htb := right_tbl hx
  obtain ⟨-, hmy, -, -⟩ := right_parts hx
  have HAll : Hid (∀ w', Below w.heap.size w w' → _) := fun w' hb => all_any (.slice a l.length cap) l w' p (hg.below hb) (hT.below hb) hl2 hx
  have HF : Hid (∀ (w' : World) (x : Int), Below w.heap.size w w' → _) := fun w' x hb => refFind_any (.slice a l.length cap) l x w' (hT.below hb) hl2
  have HN : Hid (∀ w', Below w.heap.size w w' → _) := fun w' hb => count_any (.slice a l.length cap) l w' (hT.below hb) hl2 hmy
  have HMy := Hid.mk' hmy
  have HTb := Hid.mk' htb
  unfold foundV at HF
  have q1 : decide ((60 : Int) < (l.length : Int)) = false := by simp; omega
  have q2 : decide (most < 1) = false := by simp; omega
  have q3 : decide (200 < most) = false := by simp; omega
  clear hmo hg hm hT k0 k1 hx hmy htb
  refine (callsIn_wide (n := 3)).1 ?_
  refine callsIn_of_wp_marks Tryd.func7 rfl trivial ?_ rfl
  simp only [Tryd.ntmps7, List.size_toArray, List.length_cons, List.length_nil, Nat.reduceAdd, Nat.reduceSub, Array.replicate_succ, Array.replicate_zero, List.push_toArray, List.append_toArray, List.nil_append, List.cons_append]
  gi_wp2_with (refine ⟨trivial, ?_⟩; first | (gi_at_call 8; refine (callsIn_wide.2 HA.out).mono ?_; rintro e w1 ⟨rfl, hb1⟩; obtain ⟨e0, e1⟩ := HKc.out w1 hb1; have hbw1 := hb0.trans (hb1.mono hb0.size)) | (gi_at_call 16; refine (callsIn_wide.2 (HR.out w1 hbw1 hl2)).mono ?_; rintro e w2 ⟨rfl, hb2⟩; have hbw := hb1.trans (hb2.mono hb1.size); obtain ⟨e0', e1'⟩ := HKc.out w2 hbw; obtain ⟨WA, hWA, hHas, hbA, hzA⟩ := has_new w2 w.heap.size _ most e0' e1'; have hA0 := hHas.c0; have hbwA := hb0.trans ((hbw.mono hb0.size).trans (hbA.mono (Nat.le_trans hb0.size hbw.size))); have HAs := Hid.mk' hHas; clear hHas hbA) | (gi_at_call 21; refine (callsIn_wide.2 (HAll.out WA hbwA)).mono ?_; rintro e WB ⟨a', c', rfl, hBt, hTt, hOt, hbB⟩))
  rw [hzA] at hBt hOt
  have HHB : Has w.heap.size w2.heap.size (.slice a l.length cap) most 0 (true, -1) WB := by
    have hh := HAs.out
    have hblk : ∀ (b : Nat) (v : Value), WA.cell? ⟨b, 0, none⟩ = some v → WB.cell? ⟨b, 0, none⟩ = some v ∧ WB.frozen? ⟨b, 0, none⟩ = WA.frozen? ⟨b, 0, none⟩ := fun b v h => ⟨(hbB.cell (p := ⟨b, 0, none⟩) (lt_of_cell h)).trans h, World.frozen?_of_block (hbB.block b (lt_of_cell h))⟩
    exact ⟨(hblk _ _ hh.c0).1, (hblk _ _ hh.c1).1, (hblk _ _ hh.c5).1, (hblk _ _ hh.c6).1, (hblk _ _ hh.c7).1, (hblk _ _ hh.c5).2.trans hh.f5, (hblk _ _ hh.c6).2.trans hh.f6, (hblk _ _ hh.c7).2.trans hh.f7⟩
  have hbwB : Below w.heap.size w WB := hbwA.trans (hbB.mono hbwA.size)
  have hzB : w2.heap.size + 3 ≤ WB.heap.size := by have := hbB.size; omega
  have hw2 : w.heap.size + 2 ≤ w2.heap.size := by have := hbw.size; omega
  have HSQ := Hid.mk' (all_stops 2 (by omega) (w2.heap.size + 3) a' c' l (fun b => b = w2.heap.size ∨ b = w2.heap.size + 1 ∨ b = w2.heap.size + 1 + 1) WB hBt hTt (fun b hb => by have := hOt b hb; omega) (fun b hb => by omega) hl2 HMy.out)
  have HH0 := Hid.mk' HHB
  clear hBt hTt hOt hbB HAs hA0 hWA hb1 hb2 hbw e0 e1 e0' e1' HHB hbwA HAll HA HR HKc hW0
  refine wpIn_rangeFunc_ownG (n := 3) rfl (by omega) (gf := 32) (lb := #[.pointer (some ⟨w2.heap.size + 3, 0, none⟩)]) rfl trivial (enters_of Tryd.func32 (by kernel_rfl) rfl)
    HSQ.out (fun h k => ⟨keepC_t h.1 k.1, Nat.le_trans h.2 k.2⟩) (fun W l o o' h1 h2 h3 h4 => ⟨keepC_b (w := WB) W l o o' h1 h2 h3 h4, by simp [World.putObj]⟩) (Below.refl _ _) (fun _ => rfl)
    (fun pre W => (Has w.heap.size w2.heap.size (.slice a l.length cap) most pre.length (gs l pre) W ∧ (pre.length : Int) < most) ∧ Below w.heap.size w W)
    (fun c pre W => (c = .exit 0 ∧ Has w.heap.size w2.heap.size (.slice a l.length cap) most pre.length (gs l pre) W ∧ (pre.length : Int) = most) ∧ Below w.heap.size w W)
    (OwnFrom.and (Own.from (fun s A B row hs hg hr => ⟨hs.1.kept hg hr, hs.2⟩) _) (ownFrom_below (Nat.le_refl _) (by omega)))
    (fun c => OwnFrom.and (Own.from (fun s A B row hs hg hr => ⟨hs.1, hs.2.1.kept hg hr, hs.2.2⟩) _) (ownFrom_below (Nat.le_refl _) (by omega)))
    ⟨⟨HH0.out, by simp; omega⟩, hbwB⟩
    (fun x => { tmps := #[.slice a l.length cap, .int .i64 most, .pointer (some ⟨w.heap.size, 0, none⟩), .pointer (some ⟨w.heap.size + 1, 0, none⟩), .bool false, .pointer (some ⟨w2.heap.size, 0, none⟩), .pointer (some ⟨w2.heap.size + 1, 0, none⟩), .pointer (some ⟨w2.heap.size + 1 + 1, 0, none⟩), .int .i32 x.1, .int .i64 x.2, undef, undef, .bool true, .bool false, .slice a l.length cap, .int .i64 l.length, .bool false, .bool false, .slice a l.length cap, .bool true, .bool false, .bool false, .bool false, .int .i64 most, .bool false, .bool false, .bool false, .int .i64 most, .bool false, .bool false, .slice a l.length cap, .func (.func 32) #[] #[.pointer (some ⟨w2.heap.size + 3, 0, none⟩)], .int .i32 x.1, .int .i64 x.2, undef, undef, undef, undef, undef, undef, undef, undef, undef, undef, undef, undef, undef, undef, undef, undef, undef, undef, undef, undef, undef, undef, undef, undef, undef, undef, undef, undef, undef, undef, undef, undef, undef, undef, undef], defers := [] }) ?assign ?body ?done ?stop
  case assign =>
    intro l x W K hK
    unfold encA
    gi_wp2
    exact hK
  case body =>
    rintro r pre x W ⟨⟨hHas, hlt⟩, hB⟩ _
    have HST : Hid (∀ (n' : Int) (g : Bool) (y : Int), _) := fun n' g y => has_set hHas (by omega) n' g y
    obtain ⟨z0, z1, z5, z6, z7, y5, y6, y7⟩ := hHas
    have HFx := Hid.mk' (HF.out W x.1 hB)
    have hsn := gs_snoc l pre x
    obtain ⟨g, hgs⟩ : ∃ g, gs l pre = g := ⟨_, rfl⟩
    rw [hgs] at z6 z7 hsn
    obtain ⟨g0, g1⟩ := g
    obtain ⟨x1, x2⟩ := x
    simp only [gstep] at z6 z7 hsn HFx
    have HSn := Hid.mk' hsn
    clear hsn hgs
    generalize find l x1 = o at HFx HSn
    generalize o.getD 0 = o1 at HFx HSn
    generalize o.isSome = o2 at HFx HSn
    have hlen : ((pre ++ [(x1, x2)]).length : Int) = (pre.length : Int) + 1 := by simp
    have HLn := Hid.mk' hlen
    clear hlen
    have hcase : (g0 = false ∧ Hid (gs l (pre ++ [(x1, x2)]) = (false, x1))) ∨ (g0 = true ∧ o2 = false ∧ Hid (gs l (pre ++ [(x1, x2)]) = (false, x1))) ∨ (g0 = true ∧ o2 = true ∧ (x2 == o1) = false ∧ Hid (gs l (pre ++ [(x1, x2)]) = (false, x1))) ∨ (g0 = true ∧ o2 = true ∧ (x2 == o1) = true ∧ decide (g1 < x1) = false ∧ Hid (gs l (pre ++ [(x1, x2)]) = (false, x1))) ∨ (g0 = true ∧ o2 = true ∧ (x2 == o1) = true ∧ g1 < x1 ∧ Hid (gs l (pre ++ [(x1, x2)]) = (true, x1))) := by
      have hsn := HSn.out
      cases g0
      · exact .inl ⟨rfl, by show _ = _; rw [hsn]; simp⟩
      cases o2
      · exact .inr (.inl ⟨rfl, rfl, by show _ = _; rw [hsn]; simp⟩)
      cases he : (x2 == o1)
      · exact .inr (.inr (.inl ⟨rfl, rfl, rfl, by show _ = _; rw [hsn, he]; simp⟩))
      by_cases hg : g1 < x1
      · exact .inr (.inr (.inr (.inr ⟨rfl, rfl, rfl, hg, by show _ = _; rw [hsn, he]; simp [hg]⟩)))
      · exact .inr (.inr (.inr (.inl ⟨rfl, rfl, rfl, by simp; omega, by show _ = _; rw [hsn, he]; simp; omega⟩)))
    clear HSn
    by_cases hq : (pre.length : Int) + 1 = most
    · have hq1 : ((pre.length : Int) + 1 == most) = true := by simpa using hq
      have HQ := Hid.mk' hq
      clear hq
      rcases hcase with ⟨rfl, HG⟩ | ⟨rfl, rfl, HG⟩ | ⟨rfl, rfl, he, HG⟩ | ⟨rfl, rfl, he, hgx, HG⟩ | ⟨rfl, rfl, he, hgx, HG⟩
      all_goals
        gi_wp2_with (refine ⟨trivial, ?_⟩; gi_at_call 18; refine (CallsIn.inRound r (callsIn_wide.2 HFx.out)).mono ?_; rintro e w' ⟨rfl, rfl⟩)
        obtain ⟨W', hW', hH', hKO, hKC, hsz, hBl⟩ := HST.out ((pre.length : Int) + 1) _ x1
        rw [hW']
        exact ⟨hKO.from _, ⟨rfl, by rw [HG.out, HLn.out]; exact hH', by rw [HLn.out]; exact HQ.out⟩, hBl _ _ hB (by omega)⟩
    · have hq1 : ((pre.length : Int) + 1 == most) = false := by simpa using hq
      have HQ : Hid ((pre.length : Int) + 1 < most) := by show _ < _; omega
      clear hq
      rcases hcase with ⟨rfl, HG⟩ | ⟨rfl, rfl, HG⟩ | ⟨rfl, rfl, he, HG⟩ | ⟨rfl, rfl, he, hgx, HG⟩ | ⟨rfl, rfl, he, hgx, HG⟩
      all_goals
        gi_wp2_with (refine ⟨trivial, ?_⟩; gi_at_call 18; refine (CallsIn.inRound r (callsIn_wide.2 HFx.out)).mono ?_; rintro e w' ⟨rfl, rfl⟩)
        obtain ⟨W', hW', hH', hKO, hKC, hsz, hBl⟩ := HST.out ((pre.length : Int) + 1) _ x1
        rw [hW']
        exact ⟨hKO.from _, ⟨hKC, hsz⟩, ⟨by rw [HG.out, HLn.out]; exact hH', by rw [HLn.out]; exact HQ.out⟩, hBl _ _ hB (by omega)⟩
  case done =>
    rintro D zs W hD rfl ⟨⟨hHas, hlt⟩, hB⟩ hK
    have hgd : (gs l (allL l)).1 = true := gs_prefix HTb.out (List.prefix_refl _)
    obtain ⟨z0, z1, z5, z6, z7, -, -, -⟩ := hHas
    rw [hgd] at z7
    have HEq : Hid (((allL l).length : Int) = min most (sumTo l l.length)) := by
      show _ = _
      have e9 := allTo_len HMy.out l.length (Nat.le_refl _)
      have e8 : ((allL l).length : Int) = sumTo l l.length := e9
      omega
    generalize ((allL l).length : Int) = nn at z5 HEq
    have HN1 : Hid (∀ w', Below w.heap.size w w' → _) := fun w' hb => HN.out w' hb
    generalize sumTo l l.length = sm at HN1 HEq
    have hxx := HEq.out
    clear z6 hgd HEq
    gi_wp2
    refine wpIn_wide.2 ?_
    have hqq : (nn == min most sm) = true := by simpa using hxx
    clear hxx
    have hZ : Hid (∀ W', Below W.drew.heap.size W.drew W' → W'.cell? ⟨w.heap.size, 0, none⟩ = some (.slice a l.length cap) ∧ W'.cell? ⟨w.heap.size + 1, 0, none⟩ = some (.int .i64 most) ∧ W'.cell? ⟨w2.heap.size, 0, none⟩ = some (.int .i64 nn) ∧ W'.cell? ⟨w2.heap.size + 1 + 1, 0, none⟩ = some (.bool true)) := fun W' hb => by
      have hb' : Below W.heap.size W W' := ((Below.refl _ W).drew).trans hb
      exact ⟨(hb'.cell (p := ⟨w.heap.size, 0, none⟩) (lt_of_cell z0)).trans z0, (hb'.cell (p := ⟨w.heap.size + 1, 0, none⟩) (lt_of_cell z1)).trans z1, (hb'.cell (p := ⟨w2.heap.size, 0, none⟩) (lt_of_cell z5)).trans z5, (hb'.cell (p := ⟨w2.heap.size + 1 + 1, 0, none⟩) (lt_of_cell z7)).trans z7⟩
    have HN2 := Hid.mk' (HN1.out W.drew hB.drew)
    go_region_held3 (fun w' => w'.cell? ⟨w.heap.size, 0, none⟩ = some (.slice a l.length cap) ∧ w'.cell? ⟨w.heap.size + 1, 0, none⟩ = some (.int .i64 most) ∧ w'.cell? ⟨w2.heap.size, 0, none⟩ = some (.int .i64 nn) ∧ w'.cell? ⟨w2.heap.size + 1 + 1, 0, none⟩ = some (.bool true)) (first | exact ⟨z0, z1, z5, z7⟩ | exact hZ.out _ hb9 | go_keep) ((go_at_call 15; refine HN2.out.mono ?_; rintro e W9 ⟨rfl, hb9⟩))
    gi_wp2
    have hb10 : Below W.heap.size W W9 := ((Below.refl _ W).drew).trans hb9
    have hK9 : W9.heap[D]? = some (.deferred (some [])) := (hb10.block D (Array.getElem?_eq_some_iff.1 hK).1).trans hK
    refine ⟨by simp, .inl ⟨_, _, rfl, run_takeDeferred hK9, ?_⟩⟩
    refine ⟨_, results_tmp rfl _ _ _, rfl, ?_⟩
    exact (hB.trans (hb10.mono hB.size)).trans (belowK_b (w := w) (Nat.le_refl _) _ D _ _ (by omega) hK9 rfl rfl)

  case stop =>
    rintro D c pre W hD hpre ⟨⟨rfl, hHas, hlt⟩, hB⟩ hK
    have hgd : (gs l pre).1 = true := gs_prefix HTb.out hpre
    obtain ⟨z0, z1, z5, z6, z7, -, -, -⟩ := hHas
    rw [hgd] at z7
    have HEq : Hid ((pre.length : Int) = min most (sumTo l l.length)) := by
      show _ = _
      have e9 := allTo_len HMy.out l.length (Nat.le_refl _)
      have e8 : ((allL l).length : Int) = sumTo l l.length := e9
      have e7 := hpre.length_le
      omega
    generalize (pre.length : Int) = nn at z5 HEq
    have HN1 : Hid (∀ w', Below w.heap.size w w' → _) := fun w' hb => HN.out w' hb
    generalize sumTo l l.length = sm at HN1 HEq
    have hxx := HEq.out
    clear z6 hgd HEq
    gi_wp2
    refine wpIn_wide.2 ?_
    have hqq : (nn == min most sm) = true := by simpa using hxx
    clear hxx
    have hZ : Hid (∀ W', Below W.drew.heap.size W.drew W' → W'.cell? ⟨w.heap.size, 0, none⟩ = some (.slice a l.length cap) ∧ W'.cell? ⟨w.heap.size + 1, 0, none⟩ = some (.int .i64 most) ∧ W'.cell? ⟨w2.heap.size, 0, none⟩ = some (.int .i64 nn) ∧ W'.cell? ⟨w2.heap.size + 1 + 1, 0, none⟩ = some (.bool true)) := fun W' hb => by
      have hb' : Below W.heap.size W W' := ((Below.refl _ W).drew).trans hb
      exact ⟨(hb'.cell (p := ⟨w.heap.size, 0, none⟩) (lt_of_cell z0)).trans z0, (hb'.cell (p := ⟨w.heap.size + 1, 0, none⟩) (lt_of_cell z1)).trans z1, (hb'.cell (p := ⟨w2.heap.size, 0, none⟩) (lt_of_cell z5)).trans z5, (hb'.cell (p := ⟨w2.heap.size + 1 + 1, 0, none⟩) (lt_of_cell z7)).trans z7⟩
    have HN2 := Hid.mk' (HN1.out W.drew hB.drew)
    go_region_held3 (fun w' => w'.cell? ⟨w.heap.size, 0, none⟩ = some (.slice a l.length cap) ∧ w'.cell? ⟨w.heap.size + 1, 0, none⟩ = some (.int .i64 most) ∧ w'.cell? ⟨w2.heap.size, 0, none⟩ = some (.int .i64 nn) ∧ w'.cell? ⟨w2.heap.size + 1 + 1, 0, none⟩ = some (.bool true)) (first | exact ⟨z0, z1, z5, z7⟩ | exact hZ.out _ hb9 | go_keep) ((go_at_call 15; refine HN2.out.mono ?_; rintro e W9 ⟨rfl, hb9⟩))
    gi_wp2
    have hb10 : Below W.heap.size W W9 := ((Below.refl _ W).drew).trans hb9
    have hK9 : W9.heap[D]? = some (.deferred (some [])) := (hb10.block D (Array.getElem?_eq_some_iff.1 hK).1).trans hK
    refine ⟨by simp, .inl ⟨_, _, rfl, run_takeDeferred hK9, ?_⟩⟩
    refine ⟨_, results_tmp rfl _ _ _, rfl, ?_⟩
    exact (hB.trans (hb10.mono hB.size)).trans (belowK_b (w := w) (Nat.le_refl _) _ D _ _ (by omega) hK9 rfl rfl)

end Go.Proofs.YthheplgpjhhbmaaDoor

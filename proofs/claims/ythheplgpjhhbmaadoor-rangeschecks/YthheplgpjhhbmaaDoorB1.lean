/-
  What is proved here: what Build answers at any ranges, as far as slices.Insert answers as it should.
-/
import Derived.Test.YthheplgpjhhbmaaDoorB0
import Derived.Deep.RegionHeld3
namespace Go.Proofs.YthheplgpjhhbmaaDoor
open Go.RowKit Go.Shelf
attribute [local go_sem] Oper.semAt_some

theorem one_newB (W : World) (v : Value) (t : TypeId) : (W.alloc (.cells #[v] t)).cell? ⟨W.heap.size, 0, none⟩ = some v ∧ (W.alloc (.cells #[v] t)).frozen? ⟨W.heap.size, 0, none⟩ = false := by simp
theorem cell_upB {W : World} {a : Addr} {v : Value} {o : Obj} (h : W.cell? a = some v) : (W.alloc o).cell? a = some v := cell_kept h (World.grownBy_alloc W o none) (fun r e => by cases e)
theorem frozen_upB {W : World} {a : Addr} {v : Value} {o : Obj} (h : W.cell? a = some v) (hf : W.frozen? a = false) : (W.alloc o).frozen? a = false := (frozen_kept h (World.grownBy_alloc W o none) (fun r e => by cases e)).trans hf
theorem set_otherB (W : World) (a b : Addr) (v : Value) (h : b.block ≠ a.block) : (W.setCell a v).cell? b = W.cell? b := World.cell?_of_block (heap_setCell_other W a b.block v h)
/-- the two results written -/
theorem res_set {W : World} {B : Nat} {u2 u3 : Value} (k2 : W.cell? ⟨B, 0, none⟩ = some u2) (k3 : W.cell? ⟨B + 1, 0, none⟩ = some u3) (rv fv : Value) :
    ∃ W', (W.setCell ⟨B, 0, none⟩ rv).setCell ⟨B + 1, 0, none⟩ fv = W' ∧ W'.cell? ⟨B, 0, none⟩ = some rv ∧ W'.cell? ⟨B + 1, 0, none⟩ = some fv ∧ KeepsOthers W W' ∧ W'.heap.size = W.heap.size ∧ (∀ w, Below B w W → Below B w W') ∧ ∀ l x, B + 1 < W.heap.size → Tab W l x → (∀ b, l.ownBlock = some b → b ≠ B ∧ b ≠ B + 1) → Tab W' l x := by
  refine ⟨_, rfl, ?_, ?_, (KeepsOthers.setCell _ _ _).trans (KeepsOthers.setCell _ _ _), by simp, ?_, ?_⟩
  · rw [set_otherB _ _ _ _ (by simp only []; omega)]; exact World.cell?_setCell_same _ _ _ k2
  · refine World.cell?_setCell_same _ _ _ (u := u3) ?_
    rw [set_otherB _ _ _ _ (by simp only []; omega)]; exact k3
  · intro w hb
    exact (hb.setCell (p := ⟨B, 0, none⟩) (Nat.le_refl _) _).setCell (p := ⟨B + 1, 0, none⟩) (by simp only []; omega) _
  · intro l x _ ht hne
    obtain ⟨a, cap, rfl, ht⟩ := ht
    refine ⟨a, cap, rfl, fun j hj => ?_⟩
    obtain ⟨b, off, rfl, hc⟩ := ht j hj
    refine ⟨b, off, rfl, fun i hi => ?_⟩
    obtain ⟨h1, h2⟩ := hne b rfl
    rw [← hc i hi, set_otherB _ _ _ _ h2, set_otherB _ _ _ _ h1]
theorem tab_kept {W W' : World} {row : Option Nat} {v : Value} {l : List Rg} (h : Tab W v l) (hg : W.grownBy W' row) (hrow : ∀ r, row = some r → ∃ o : Obj, W.heap[r]? = some o ∧ o.isCells = false) : Tab W' v l := by
  obtain ⟨a, cap, rfl, h⟩ := h
  refine ⟨a, cap, rfl, fun j hj => ?_⟩
  obtain ⟨b, off, rfl, hc⟩ := h j hj
  refine ⟨b, off, rfl, fun i hi => ?_⟩
  have hc1 := hc i hi
  obtain ⟨u, hu⟩ : ∃ u, (l.getD j default).cells[i]? = some u := by
    rcases (show i = 0 ∨ i = 1 ∨ i = 2 by omega) with rfl | rfl | rfl <;> exact ⟨_, rfl⟩
  rw [hu] at hc1 ⊢
  exact cell_kept hc1 hg hrow
/-- each named error lies in memory of its own -/
def Gb (p : Nat → Addr) (w : World) : Prop := ∀ c, ∃ cs t, w.heap[(p c).block]? = some (.cells cs t (0, 0))
theorem Gb.below {p : Nat → Addr} {w w' : World} (h : Gb p w) (hb : Below w.heap.size w w') : Gb p w' := fun c => by
  obtain ⟨cs, t, h1⟩ := h c
  exact ⟨cs, t, (hb.block _ (Array.getElem?_eq_some_iff.1 h1).1).trans h1⟩
theorem neq_same (w : World) (a : Addr) : (binOp .neq 27 (.iface 118 (.pointer (some a))) (.iface 118 (.pointer (some a)))).run Tryd.prog w = .ok (.bool false) w := by
  obtain ⟨i, hi, hcmp⟩ := Option.map_eq_some_iff.1 Is.comp
  obtain ⟨j, hj, hjs⟩ := Option.map_eq_some_iff.1 Is.size
  simp only [binOp]
  simp [Op.equal, Op.maxDepth, run_equalIn_iface_ptr_same w 9998 a Tryd.underlying27 Tryd.underlying118 hi hcmp hj]
theorem neq_other (w : World) {a b : Addr} {ca cb : Array Value} {ta tb : TypeId} (hne : a ≠ b) (ha : w.heap[a.block]? = some (.cells ca ta (0, 0))) (hb : w.heap[b.block]? = some (.cells cb tb (0, 0))) : (binOp .neq 27 (.iface 118 (.pointer (some a))) (.iface 118 (.pointer (some b)))).run Tryd.prog w = .ok (.bool true) w := by
  obtain ⟨i, hi, hcmp⟩ := Option.map_eq_some_iff.1 Is.comp
  obtain ⟨j, hj, hjs⟩ := Option.map_eq_some_iff.1 Is.size
  simp only [binOp]
  simp [Op.equal, Op.maxDepth, run_equalIn_iface_ptr_other w 9998 Tryd.underlying27 Tryd.underlying118 hi hcmp hj (by omega) hne ha hb]
/-- slices.Insert of one range, at tables and places of which P holds -/
def InsOk (P : List Rg → Nat → Prop) : Prop :=
  ∀ (B : Nat) (t : List Rg) (i : Nat) (r : Rg) (w : World) (v : Value) (nb : Nat), i ≤ t.length → t.length ≤ 2000 → P t i → B ≤ w.heap.size → w.ownsRow B 37 3 v t.length (cellsOf t) → v.ownBlock ≠ some nb →
    w.heap[nb]? = some (.cells #[.int .i32 r.lo, .int .i32 r.hi, .int .i64 r.val] 37 (0, 0)) →
    Calls Tryd.prog 26 #[v, .int .i64 i, .slice (some ⟨nb, 0, none⟩) 1 1] w fun e w' => ∃ v', e = .returned v' ∧ w'.ownsRow B 37 3 v' (t.length + 1) (cellsOf (insAt t i r)) ∧ Below B w w'
set_option maxRecDepth 100000 in
set_option maxHeartbeats 4000000 in
theorem build_any (P : List Rg → Nat → Prop) (hI : InsOk P) (v : Value) (L : List Rg) (w : World) (p : Nat → Addr) (hg : Gl p w) (hgb : Gb p w) (hT : Tab w v L) (hL : L.length ≤ 2147483648)
    (Inv : Nat → List Rg → Prop) (hi0 : Inv 0 []) (hi1 : ∀ k t i, k < L.length → Inv k t → Tbl t → Reach t (L.getD k default).lo i → ¬ meets t i (L.getD k default) → P t i ∧ Inv (k + 1) (insAt t i (L.getD k default))) :
    Calls Tryd.prog 10 #[v] w fun e w' => ∃ rv fv, e = .returned (.tuple #[rv, fv]) ∧ Tab w' rv (buildM L).1 ∧ Says w' fv w.heap.size p (buildM L).2 ∧ Below w.heap.size w w' := by
  refine (callsIn_wide (n := 3)).1 ?_
  obtain ⟨a, cap, hv, -⟩ := id hT
  subst hv
  refine callsIn_of_wp_marks Tryd.func10 rfl trivial ?_ rfl
  simp only [Tryd.ntmps10, List.size_toArray, List.length_cons, List.length_nil, Nat.reduceAdd, Nat.reduceSub, Array.replicate_succ, Array.replicate_zero, List.push_toArray, List.append_toArray, List.nil_append, List.cons_append]
  obtain ⟨W0, hW0⟩ : ∃ W0, ((w.alloc (.cells #[.slice none 0 0] 22)).alloc (.cells #[.nilIface] 27)).alloc (.cells #[.slice a L.length cap] 22) = W0 := ⟨_, rfl⟩
  have hB0 : Below w.heap.size w W0 := by rw [← hW0]; exact (((Below.refl _ w).alloc (Nat.le_refl _) _).alloc (by simp) _).alloc (by simp; omega) _
  have hz : W0.heap.size = w.heap.size + 3 := by rw [← hW0]; simp
  have hcc : W0.cell? ⟨w.heap.size + 1 + 1, 0, none⟩ = some (.slice a L.length cap) := by
    rw [← hW0]
    have e := World.cell?_alloc_new ((w.alloc (.cells #[.slice none 0 0] 22)).alloc (.cells #[.nilIface] 27)) #[.slice a L.length cap] 22 0
    rw [World.size_alloc, World.size_alloc] at e
    exact e
  have HSQ := Hid.mk' (faults_stops 2 (by omega) (w.heap.size + 1 + 1) (.slice a L.length cap) L p W0 hcc (hT.below hB0) (hg.below hB0) hL)
  have hc0 : (W0.cell? ⟨w.heap.size, 0, none⟩ = some (.slice none 0 0) ∧ W0.frozen? ⟨w.heap.size, 0, none⟩ = false) ∧ W0.cell? ⟨w.heap.size + 1, 0, none⟩ = some .nilIface ∧ W0.frozen? ⟨w.heap.size + 1, 0, none⟩ = false := by
    have s0 := one_newB w (.slice none 0 0) 22
    have s1 := one_newB (w.alloc (.cells #[.slice none 0 0] 22)) .nilIface 27
    rw [World.size_alloc] at s1
    rw [← hW0]
    exact ⟨⟨cell_upB (cell_upB s0.1), frozen_upB (cell_upB s0.1) (frozen_upB s0.1 s0.2)⟩, cell_upB s1.1, frozen_upB s1.1 s1.2⟩
  have HGb : Hid (∀ W, Below w.heap.size w W → Gl p W) := fun W hb => hg.below hb
  have HTb : Hid (∀ W, Below w.heap.size w W → Tab W (.slice a L.length cap) L) := fun W hb => hT.below hb
  have HI := Hid.mk' hI
  have HI0 := Hid.mk' hi0
  have HI1 := Hid.mk' hi1
  have HNE := Hid.mk' hg.ne6
  have HG7 := Hid.mk' (lt_of_cell hg.g7)
  have HBk : Hid (∀ W, Below w.heap.size w W → Gb p W) := fun W hb => hgb.below hb
  clear hg hgb hT hi0 hi1 hI hcc
  gi_wp2_with (refine ⟨trivial, ?_⟩; gi_at_call 24; refine (callsIn_wide.2 (faults_any _ _ _ _)).mono ?_; rintro e w' ⟨rfl, rfl⟩)
  clear hW0
  refine wpIn_rangeFunc_ownG (n := 3) rfl (by omega) (gf := 36) (lb := #[.pointer (some ⟨w.heap.size + 1 + 1, 0, none⟩)]) rfl trivial (enters_of Tryd.func36 (by kernel_rfl) rfl)
    HSQ.out belowK_t (belowK_b (Nat.le_refl _)) (Below.refl _ _) (fun _ => rfl)
    (fun pre W => ((∀ x ∈ pre, x.2 = 6) ∧ (W.cell? ⟨w.heap.size, 0, none⟩ = some (.slice none 0 0) ∧ W.frozen? ⟨w.heap.size, 0, none⟩ = false) ∧ W.cell? ⟨w.heap.size + 1, 0, none⟩ = some .nilIface ∧ W.frozen? ⟨w.heap.size + 1, 0, none⟩ = false) ∧ Below w.heap.size w W)
    (fun c pre W => (c = .ret ∧ ∃ x pre' fv, pre = pre' ++ [x] ∧ (∀ y ∈ pre', y.2 = 6) ∧ x.2 ≠ 6 ∧ W.cell? ⟨w.heap.size, 0, none⟩ = some (.slice none 0 0) ∧ W.cell? ⟨w.heap.size + 1, 0, none⟩ = some fv ∧ Flt W fv w.heap.size x.1 (p x.2)) ∧ Below w.heap.size w W)
    (OwnFrom.and (Own.from (fun s A B row hs hg hr => ⟨hs.1, ⟨cell_kept hs.2.1.1 hg hr, (frozen_kept hs.2.1.1 hg hr).trans hs.2.1.2⟩, cell_kept hs.2.2.1 hg hr, (frozen_kept hs.2.2.1 hg hr).trans hs.2.2.2⟩) _) (ownFrom_below (Nat.le_refl _) (by omega)))
    (fun c => OwnFrom.and (Own.from (fun s A B row hs hg hr => by
      obtain ⟨rfl, x, pre', fv, rfl, h0, h1, h2, h3, h4⟩ := hs
      exact ⟨rfl, x, pre', fv, rfl, h0, h1, cell_kept h2 hg hr, cell_kept h3 hg hr, flt_kept h4 hg hr⟩) _) (ownFrom_below (Nat.le_refl _) (by omega)))
    ⟨⟨by simp, hc0⟩, hB0⟩
    (fun x => { tmps := #[.slice a L.length cap, undef, .pointer (some ⟨w.heap.size, 0, none⟩), .pointer (some ⟨w.heap.size + 1, 0, none⟩), .int .i64 (x.1 : Int), .iface 118 (.pointer (some (p x.2))), undef, undef, undef, undef, .slice a L.length cap, .func (.func 36) #[] #[.pointer (some ⟨w.heap.size + 1 + 1, 0, none⟩)], .int .i64 (x.1 : Int), .iface 118 (.pointer (some (p x.2))), undef, undef, undef, undef, undef, undef, undef, undef, undef, undef, undef, undef, undef, undef, undef, undef, undef, undef, undef, undef, undef, undef, undef, undef, undef, undef, undef, undef, undef, undef, undef, undef, undef, undef, undef, undef, undef, undef, undef, undef, undef, undef, undef, undef, undef], defers := [] }) ?assign ?body ?done ?stop
  case assign =>
    intro l x W K hK
    unfold encF
    gi_wp2
    exact hK
  case body =>
    rintro r pre x W ⟨⟨h6, ⟨k2, f2⟩, k3, f3⟩, hB⟩ _
    have hlt := lt_of_cell k3
    have hlt2 := lt_of_cell k2
    have g6 := (HGb.out W hB).g6
    obtain ⟨x1, x2⟩ := x
    by_cases hx : x2 = 6
    · subst hx
      have hrun := neq_same W (p 6)
      gi_wp2
      exact ⟨KeepsFrom.refl _ _, Below.refl _ _, ⟨fun y hy => by rcases List.mem_append.1 hy with h | h; exact h6 y h; simp at h; rw [h], ⟨k2, f2⟩, k3, f3⟩, hB⟩
    · have hne := HNE.out x2 hx
      obtain ⟨cs1, t1, hb1⟩ := HBk.out W hB x2
      obtain ⟨cs2, t2, hb2⟩ := HBk.out W hB 6
      have hrun := neq_other W hne hb1 hb2
      have HX := Hid.mk' hx
      obtain ⟨W', hW', e2, e3, hKO, hs', hBl, -⟩ := res_set k2 k3 (.slice none 0 0) (.iface 55 (.pointer (some ⟨W.heap.size, 0, none⟩)))
      have hfl := flt_new W' x1 (p x2)
      rw [hs'] at hfl
      have hBl' := hBl w hB
      have HF := Hid.mk' hfl
      have HW' := Hid.mk' hW'
      clear hne hb1 hb2 hx hfl hW'
      gi_wp2
      rw [HW'.out]
      exact ⟨(hKO.trans (KeepsOthers.alloc _ _)).from _, ⟨rfl, (x1, x2), pre, _, rfl, h6, HX.out, cell_upB e2, cell_upB e3, HF.out.weaken (by omega) rfl⟩, hBl'.alloc (by rw [hs']; omega) _⟩
  case done =>
    rintro D zs W hD rfl ⟨⟨h6, ⟨k2, f2⟩, k3, f3⟩, hB⟩ hK
    have hfd : (faultsM L).find? (fun x => x.2 != 6) = none := List.find?_eq_none.2 (fun y hy => by simp [h6 y hy])
    have hpm : Hid (buildM L = buildL L [] 0) := by show _ = _; unfold buildM; rw [hfd]
    obtain ⟨hl2, hmy⟩ := faults_none hfd
    have HMy := Hid.mk' hmy
    obtain ⟨R, hR⟩ : ∃ R, buildL L [] 0 = R := ⟨_, rfl⟩
    rw [hR] at hpm
    have HR := Hid.mk' hR
    have hDl := (Array.getElem?_eq_some_iff.1 hK).1
    have hlt := lt_of_cell k3
    have hlt2 := lt_of_cell k2
    clear h6 hfd hmy hR
    gi_wp2
    refine wpIn_wide.2 ?_
    have HKp : Hid (∀ wr, Below W.heap.size W wr → wr.cell? ⟨w.heap.size, 0, none⟩ = some (.slice none 0 0) ∧ wr.frozen? ⟨w.heap.size, 0, none⟩ = false ∧ wr.cell? ⟨w.heap.size + 1, 0, none⟩ = some .nilIface ∧ wr.frozen? ⟨w.heap.size + 1, 0, none⟩ = false ∧ wr.heap[D]? = some (.deferred (some [])) ∧ Below w.heap.size w wr) := fun wr hb =>
      ⟨(hb.cell (p := ⟨w.heap.size, 0, none⟩) hlt2).trans k2, (World.frozen?_of_block (hb.block w.heap.size hlt2)).trans f2, (hb.cell (p := ⟨w.heap.size + 1, 0, none⟩) hlt).trans k3, (World.frozen?_of_block (hb.block (w.heap.size + 1) hlt)).trans f3, (hb.block D hDl).trans hK, hB.trans (hb.mono hB.size)⟩
    clear k2 k3 f2 f3 hK
    go_loopw [6, 24] (fun x y wr => ∃ (k : Nat) (t : List Rg), y = .int .i64 k ∧ k ≤ L.length ∧ wr.ownsRow W.heap.size 37 3 x t.length (cellsOf t) ∧ t.length ≤ k ∧ Hid (Tbl t) ∧ Hid (Inv k t) ∧ Hid (buildL (L.drop k) t k = R) ∧ Below W.heap.size W wr) (fun _ y _ => L.length - (intOf y).toNat)
    case atStart => exact ⟨0, [], rfl, Nat.zero_le _, World.ownsRow_nil _ _ _ _, Nat.le_refl _, Hid.mk' ⟨by simp, List.Pairwise.nil⟩, HI0, HR, Below.refl _ _⟩
    case round =>
      obtain ⟨k, t, rfl, hk, hown, htk, hTb, hIv, hBL, hb⟩ := hrel
      by_cases hlk : k < L.length
      · obtain ⟨e2, e2f, e3, e3f, eD, hbw⟩ := HKp.out wr hb
        obtain ⟨a', c', ee, htt⟩ := HTb.out wr hbw
        obtain ⟨rfl, rfl⟩ : a = a' ∧ cap = c' := by simpa using ee
        obtain ⟨b, off, rfl, hc⟩ := htt k hlk
        obtain ⟨d0, d1, d2⟩ := three_of (w := wr) (b := b) (o := off + k * 3) (r := L.getD k default) hc
        have hmr := HMy.out k hlk
        have HI1k : Hid (∀ i, Reach t (L.getD k default).lo i → ¬ meets t i (L.getD k default) → P t i ∧ Inv (k + 1) (insAt t i (L.getD k default))) := fun i h1 h2 => HI1.out k t i hlk hIv.out hTb.out h1 h2
        have HST : Hid (R = if meets t (reachN t (L.getD k default).lo) (L.getD k default) then ([], k, 7) else buildL (L.drop (k + 1)) (insAt t (reachN t (L.getD k default).lo) (L.getD k default)) (k + 1)) := by
          show _ = _; rw [← hBL.out, drop_cons3 hlk]; rfl
        clear hc htt ee
        generalize L.getD k default = r at *
        obtain ⟨W1, hW1⟩ : ∃ W1, wr.alloc (.cells #[.int .i32 r.lo, .int .i32 r.hi, .int .i64 r.val] 37) = W1 := ⟨_, rfl⟩
        have hb1 : Below wr.heap.size wr W1 := by rw [← hW1]; exact (Below.refl _ wr).alloc (Nat.le_refl _) _
        have hs1 : W1.heap.size = wr.heap.size + 1 := by rw [← hW1]; simp
        obtain ⟨n0, n1, n2⟩ : W1.cell? ⟨wr.heap.size, 0, none⟩ = some (.int .i32 r.lo) ∧ W1.cell? ⟨wr.heap.size, 1, none⟩ = some (.int .i32 r.hi) ∧ W1.cell? ⟨wr.heap.size, 2, none⟩ = some (.int .i64 r.val) := by rw [← hW1]; simp
        have hown1 := owns_below hown hb1
        have HRe := Hid.mk' (reaching_any _ t r.lo W1 (Tab.own hown1) (by omega) (tbl_rises hTb.out))
        obtain ⟨sa, sc, hsv⟩ : ∃ sa sc, u6 = .slice sa t.length sc := by obtain ⟨sa, sc, e, -⟩ := Tab.own hown1; exact ⟨sa, sc, e⟩
        subst hsv
        go_wp2_with fail
        refine HRe.out.mono ?_
        rintro e W2 ⟨⟨i, rfl, hri⟩, hb2⟩
        have hb12 : Below wr.heap.size wr W2 := hb1.trans (hb2.mono (by omega))
        have hbW2 : Below W.heap.size W W2 := hb.trans (hb12.mono hb.size)
        obtain ⟨q2, q2f, q3, q3f, qD, qb⟩ := HKp.out W2 hbW2
        have hown2 := owns_below hown hb12
        have m0 := (hb2.cell (p := ⟨wr.heap.size, 0, none⟩) (by simp only []; omega)).trans n0
        have m1 := (hb2.cell (p := ⟨wr.heap.size, 1, none⟩) (by simp only []; omega)).trans n1
        have m2 := (hb2.cell (p := ⟨wr.heap.size, 2, none⟩) (by simp only []; omega)).trans n2
        have hrN : reachN t r.lo = i := reach_unique (reach_of (tbl_rises hTb.out) _) hri
        rw [hrN] at HST
        have hil := hri.1
        have HRI := Hid.mk' hri
        clear n0 n1 n2 d0 d1 d2 hrN hri hown1 hown e2 e2f e3 e3f eD hW1 HRe
        rcases Nat.lt_or_ge i t.length with hit | hit
        · obtain ⟨sa', sc', es, hts⟩ := Tab.own hown2
          obtain ⟨rfl, rfl⟩ : sa = sa' ∧ sc = sc' := by simpa using es
          obtain ⟨g, o, rfl, hgc⟩ := hts i hit
          obtain ⟨y0, y1, y2⟩ := three_of (w := W2) (b := g) (o := o + i * 3) (r := t.getD i default) hgc
          clear hts hgc es
          by_cases hme : (t.getD i default).lo ≤ r.hi
          · have hpm2 : Hid (buildM L = ([], k, 7)) := by show _ = _; rw [hpm.out, HST.out, if_pos ⟨hit, hme⟩]
            have g7 := (HGb.out W2 qb).g7
            generalize t.getD i default = q at *
            have hg7a : 1 < w.heap.size := HG7.out
            have hg7b : ¬ w.heap.size = 1 := by omega
            have hg7c : ¬ 1 = w.heap.size := by omega
            have hg7d : ¬ w.heap.size + 1 = 1 := by omega
            have hg7e : ¬ 1 = w.heap.size + 1 := by omega
            have hlt3 := lt_of_cell q3
            have hlt4 := lt_of_cell q2
            go_wp2
            go_region
            go_wp2
            go_region
            go_wp2
            obtain ⟨W', hW', s2, s3, hKO, hs', hBl, -⟩ := res_set q2 q3 (.slice none 0 0) (.iface 55 (.pointer (some ⟨W2.heap.size, 0, none⟩)))
            have hfl := flt_new W' k (p 7)
            rw [hs'] at hfl
            rw [hW']
            obtain ⟨W5, hW5⟩ : ∃ W5, (W'.alloc (.cells #[.int .i64 k, .iface 118 (.pointer (some (p 7)))] 57)) = W5 := ⟨_, rfl⟩
            have hb' : Below w.heap.size w W5 := by rw [← hW5]; exact (hBl w qb).alloc (by rw [hs']; omega) _
            have s2' : W5.cell? ⟨w.heap.size, 0, none⟩ = some (.slice none 0 0) := by rw [← hW5]; exact cell_upB s2
            have s3' : W5.cell? ⟨w.heap.size + 1, 0, none⟩ = some (.iface 55 (.pointer (some ⟨W2.heap.size, 0, none⟩))) := by rw [← hW5]; exact cell_upB s3
            have hD' : W5.heap[D]? = some (.deferred (some [])) := by rw [← hW5]; exact (hKO.trans (KeepsOthers.alloc _ _)).same D _ qD rfl
            rw [hW5] at hfl ⊢
            have hD'' : W5.drew.drew.heap[D]? = some (.deferred (some [])) := hD'
            refine ⟨by simp, .inl ⟨_, _, rfl, run_takeDeferred hD'', ?_⟩⟩
            have hc2 := cell_kept (W := W5.drew.drew) s2' (grownBy_putObj' _ D (.deferred none)) (fun r e => by cases e; exact ⟨_, hD'', rfl⟩)
            have hc3 := cell_kept (W := W5.drew.drew) s3' (grownBy_putObj' _ D (.deferred none)) (fun r e => by cases e; exact ⟨_, hD'', rfl⟩)
            have hf5 := flt_kept (W := W5.drew.drew) hfl (grownBy_putObj' _ D (.deferred none)) (fun r e => by cases e; exact ⟨_, hD'', rfl⟩)
            refine ⟨.tuple #[.slice none 0 0, .iface 55 (.pointer (some ⟨W2.heap.size, 0, none⟩))], ?_, ⟨_, _, rfl, by rw [hpm2.out]; exact Tab.nil _ _ _, by rw [hpm2.out]; exact .inr ⟨by simp, hf5.weaken (by omega) rfl⟩, (hb'.drew.drew).trans (belowK_b (w := w) (Nat.le_refl _) _ D _ _ (by omega) hD'' rfl rfl)⟩⟩
            simp [results, Tryd.f10, go_sem, hc2, hc3]
          · have hnm : Hid (¬ meets t i r) := fun h => hme h.2
            generalize t.getD i default = q at *
            obtain ⟨hP, hIn⟩ := HI1k.out i HRI.out hnm.out
            have hBL' : Hid (buildL (L.drop (k + 1)) (insAt t i r) (k + 1) = R) := by show _ = _; rw [HST.out, if_neg hnm.out]
            have hTb' : Hid (Tbl (insAt t i r)) := ins_tbl hTb.out hmr HRI.out hnm.out
            have hIv' := Hid.mk' hIn
            have HIns : Hid (∀ (WD : World), Below W2.heap.size W2 WD → Calls Tryd.prog 26 #[.slice (some ⟨g, o, none⟩) t.length sc, .int .i64 i, .slice (some ⟨WD.heap.size, 0, none⟩) 1 1] (WD.alloc (.cells #[.int .i32 r.lo, .int .i32 r.hi, .int .i64 r.val] 37)) fun e w' => ∃ v', e = .returned v' ∧ w'.ownsRow W.heap.size 37 3 v' (t.length + 1) (cellsOf (insAt t i r)) ∧ Below W.heap.size (WD.alloc (.cells #[.int .i32 r.lo, .int .i32 r.hi, .int .i64 r.val] 37)) w') := fun WD hbD => by
              have ho := owns_below hown2 hbD
              exact HI.out W.heap.size t i r _ _ WD.heap.size hil (by omega) hP (by have := hbW2.size; have := hbD.size; simp; omega) (ho.alloc _) (fun e => by have := (ho.lt _ e).2; omega) (three_new WD _ _ _ _)
            clear hP hIn HI1k
            go_wp2
            go_region
            go_wp2_with fail
            refine (HIns.out _ ((Below.refl _ W2).drew)).mono ?_
            rintro e W4 ⟨v', rfl, hown4, hb4⟩
            have hbW4 : Below W.heap.size W W4 := ((hbW2.drew).alloc (by have := hbW2.size; simpa using this) _).trans hb4
            have hln := insAt_len t i r hil
            have HLN := Hid.mk' hln
            rw [← hln] at hown4
            obtain ⟨va, vc, rfl⟩ : ∃ va vc, v' = .slice va (insAt t i r).length vc := by obtain ⟨va, vc, e, -⟩ := Tab.own hown4; exact ⟨va, vc, e⟩
            have HO4 := Hid.mk' hown4
            clear hown4 hown2 hb4 hln
            go_wp2
            go_roundw
            case rel => exact ⟨k + 1, insAt t i r, by go_num, by omega, HO4.out, by have := HLN.out; omega, hTb', hIv', hBL', hbW4⟩
            case measure => simp [intOf]; omega
        · obtain rfl : i = t.length := by omega
          have hnm : Hid (¬ meets t t.length r) := fun h => by have := h.1; omega
          obtain ⟨hP, hIn⟩ := HI1k.out t.length HRI.out hnm.out
          have hBL' : Hid (buildL (L.drop (k + 1)) (insAt t t.length r) (k + 1) = R) := by show _ = _; rw [HST.out, if_neg hnm.out]
          have hTb' : Hid (Tbl (insAt t t.length r)) := ins_tbl hTb.out hmr HRI.out hnm.out
          have hIv' := Hid.mk' hIn
          have HIns : Hid (∀ (WD : World), Below W2.heap.size W2 WD → Calls Tryd.prog 26 #[.slice sa t.length sc, .int .i64 (t.length : Nat), .slice (some ⟨WD.heap.size, 0, none⟩) 1 1] (WD.alloc (.cells #[.int .i32 r.lo, .int .i32 r.hi, .int .i64 r.val] 37)) fun e w' => ∃ v', e = .returned v' ∧ w'.ownsRow W.heap.size 37 3 v' (t.length + 1) (cellsOf (insAt t t.length r)) ∧ Below W.heap.size (WD.alloc (.cells #[.int .i32 r.lo, .int .i32 r.hi, .int .i64 r.val] 37)) w') := fun WD hbD => by
            have ho := owns_below hown2 hbD
            exact HI.out W.heap.size t t.length r _ _ WD.heap.size hil (by omega) hP (by have := hbW2.size; have := hbD.size; simp; omega) (ho.alloc _) (fun e => by have := (ho.lt _ e).2; omega) (three_new WD _ _ _ _)
          clear hP hIn HI1k
          go_wp2
          go_region
          go_wp2_with fail
          refine (HIns.out _ ((Below.refl _ W2).drew)).mono ?_
          rintro e W4 ⟨v', rfl, hown4, hb4⟩
          have hbW4 : Below W.heap.size W W4 := ((hbW2.drew).alloc (by have := hbW2.size; simpa using this) _).trans hb4
          have hln := insAt_len t t.length r hil
          have HLN := Hid.mk' hln
          rw [← hln] at hown4
          obtain ⟨va, vc, rfl⟩ : ∃ va vc, v' = .slice va (insAt t t.length r).length vc := by obtain ⟨va, vc, e, -⟩ := Tab.own hown4; exact ⟨va, vc, e⟩
          have HO4 := Hid.mk' hown4
          clear hown4 hown2 hb4 hln
          go_wp2
          go_roundw
          case rel => exact ⟨k + 1, insAt t t.length r, by go_num, by omega, HO4.out, by have := HLN.out; omega, hTb', hIv', hBL', hbW4⟩
          case measure => simp [intOf]; omega
      · obtain rfl : k = L.length := by omega
        obtain ⟨e2, e2f, e3, e3f, eD, hbw⟩ := HKp.out wr hb
        have hpm2 : Hid (buildM L = (t, 0, 0)) := by
          show _ = _; rw [hpm.out, ← hBL.out, List.drop_length]; rfl
        have hTt := Hid.mk' (Tab.own hown)
        have hoB : Hid (∀ b, u6.ownBlock = some b → b ≠ w.heap.size ∧ b ≠ w.heap.size + 1) := fun b hb => by have := (hown.lt b hb).1; omega
        obtain ⟨sa, sc, rfl⟩ : ∃ sa sc, u6 = .slice sa t.length sc := by obtain ⟨sa, sc, e, -⟩ := Tab.own hown; exact ⟨sa, sc, e⟩
        have hlt3 := lt_of_cell e3
        have hlt4 := lt_of_cell e2
        obtain ⟨W', hW', s2, s3, hKO, hs', hBl, hTk⟩ := res_set e2 e3 (.slice sa t.length sc) .nilIface
        have HT' := Hid.mk' (hTk _ _ hlt3 hTt.out hoB.out)
        have hb' := hBl w hbw
        have hD' := hKO.same D _ eD rfl
        have HW' := Hid.mk' hW'
        clear hTk hKO hW' hBl hown
        go_wp2
        gi_wp2
        rw [HW'.out]
        refine ⟨by simp, .inl ⟨_, _, rfl, run_takeDeferred hD', ?_⟩⟩
        have hc2 := cell_kept s2 (grownBy_putObj' _ D (.deferred none)) (fun r e => by cases e; exact ⟨_, hD', rfl⟩)
        have hc3 := cell_kept s3 (grownBy_putObj' _ D (.deferred none)) (fun r e => by cases e; exact ⟨_, hD', rfl⟩)
        refine ⟨.tuple #[.slice sa t.length sc, .nilIface], ?_, ⟨_, _, rfl, by rw [hpm2.out]; exact tab_kept HT'.out (grownBy_putObj' _ D (.deferred none)) (fun r e => by cases e; exact ⟨_, hD', rfl⟩), by rw [hpm2.out]; exact .inl ⟨rfl, rfl⟩, hb'.trans (belowK_b (w := w) (Nat.le_refl _) W' D _ _ (by omega) hD' rfl rfl)⟩⟩
        simp [results, Tryd.f10, go_sem, hc2, hc3]
  case stop =>
    rintro D c pre W hD hpre ⟨⟨rfl, x, pre', fv, rfl, h0, h1, k2, k3, hf⟩, hB⟩ hK
    have hpm : Hid (buildM L = ([], x)) := by
      show _ = _
      obtain ⟨tl, htl⟩ := hpre.1
      have hfd : (faultsM L).find? (fun x => x.2 != 6) = some x := by
        rw [← htl, List.find?_append, List.find?_append, List.find?_eq_none.2 (fun y hy => by simp [h0 y hy]), List.find?_cons_of_pos (by simpa using h1)]
        rfl
      unfold buildM; rw [hfd]
    have hx2 : x.2 ≠ 0 := faultsM_ne L x (hpre.1.subset (by simp))
    gi_wp2
    refine ⟨by simp, .inl ⟨_, _, rfl, run_takeDeferred hK, ?_⟩⟩
    have hc2 := cell_kept k2 (grownBy_putObj' _ D (.deferred none)) (fun r e => by cases e; exact ⟨_, hK, rfl⟩)
    have hc3 := cell_kept k3 (grownBy_putObj' _ D (.deferred none)) (fun r e => by cases e; exact ⟨_, hK, rfl⟩)
    have hf5 := flt_kept hf (grownBy_putObj' _ D (.deferred none)) (fun r e => by cases e; exact ⟨_, hK, rfl⟩)
    refine ⟨.tuple #[.slice none 0 0, fv], ?_, ⟨_, _, rfl, by rw [hpm.out]; exact Tab.nil _ _ _, by rw [hpm.out]; exact .inr ⟨hx2, hf5⟩, hB.trans (belowK_b (w := w) (Nat.le_refl _) W D _ _ (by omega) hK rfl rfl)⟩⟩
    simp [results, Tryd.f10, go_sem, hc2, hc3]
end Go.Proofs.YthheplgpjhhbmaaDoor

/-
  What is proved here: what Check answers at any ranges.
-/
import Derived.Test.YtcklfcoobccgcaaDoorR2
namespace Go.Proofs.YtcklfcoobccgcaaDoor
open Go.RowKit Go.Shelf
attribute [local go_sem] Oper.semAt_some

theorem Flt.below {w w' : World} {v : Value} {B : Nat} {a : Int} {p : Addr} (h : Flt w v B a p) (hb : Below w.heap.size w w') : Flt w' v B a p := by
  obtain ⟨b, h1, h2, h3, h4⟩ := h
  exact ⟨b, h1, h2, (hb.cell (p := ⟨b, 0, none⟩) (lt_of_cell h3)).trans h3, (hb.cell (p := ⟨b, 1, none⟩) (lt_of_cell h4)).trans h4⟩
/-- what the answer v says of a place and a number (0: nothing is wrong) -/
def Says (w : World) (v : Value) (B : Nat) (p : Nat → Addr) (x : Nat × Nat) : Prop :=
  (x = (0, 0) ∧ v = .nilIface) ∨ (x.2 ≠ 0 ∧ Flt w v B x.1 (p x.2))
theorem head_of {x : Nat × Nat} {l : List (Nat × Nat)} (h : [x] <+: l) : l.headD (0, 0) = x := by
  obtain ⟨t, rfl⟩ := h
  rfl
theorem faultsM_ne (l : List Rg) (x : Nat × Nat) (h : x ∈ faultsM l) : x.2 ≠ 0 := by
  unfold faultsM at h
  split at h
  · simp at h; subst h; simp
  · have := (faultsTo_mem l _ x h).2.2; omega
/-- a Fault that lies in w' -/
theorem flt_kept {W W' : World} {row : Option Nat} {v : Value} {B : Nat} {a : Int} {q : Addr} (h : Flt W v B a q) (hg : W.grownBy W' row) (hrow : ∀ r, row = some r → ∃ o : Obj, W.heap[r]? = some o ∧ o.isCells = false) : Flt W' v B a q := by
  obtain ⟨b, h1, h2, h3, h4⟩ := h
  exact ⟨b, h1, h2, cell_kept h3 hg hrow, cell_kept h4 hg hrow⟩

set_option maxRecDepth 100000 in
set_option maxHeartbeats 2000000 in
theorem check_any (v : Value) (L : List Rg) (w : World) (p : Nat → Addr) (hg : Gl p w) (hT : Tab w v L) (hL : L.length ≤ 2147483648) :
    Calls Tryd.prog 53 #[v] w fun e w' => ∃ fv, e = .returned fv ∧ Says w' fv w.heap.size p (chk L) ∧ Below w.heap.size w w' := by
  refine (callsIn_wide (n := 3)).1 ?_
  obtain ⟨a, cap, hv, -⟩ := id hT
  refine callsIn_of_wp_marks Tryd.func53 rfl trivial ?_ rfl
  subst hv
  simp only [Tryd.ntmps53, List.size_toArray, List.length_cons, List.length_nil, Nat.reduceAdd, Nat.reduceSub, Array.replicate_succ, Array.replicate_zero, List.push_toArray, List.append_toArray, List.nil_append, List.cons_append]
  obtain ⟨W0, hW0⟩ : ∃ W0, (w.alloc (.cells #[.nilIface] 32)).alloc (.cells #[.slice a L.length cap] 22) = W0 := ⟨_, rfl⟩
  have hB0 : Below w.heap.size w W0 := by rw [← hW0]; exact ((Below.refl _ w).alloc (Nat.le_refl _) _).alloc (by simp) _
  have hz : W0.heap.size = w.heap.size + 2 := by rw [← hW0]; simp
  have HSQ := Hid.mk' (faults_stops 2 (by omega) (w.heap.size + 1) (.slice a L.length cap) L p W0 (by rw [← hW0]; have e := World.cell?_alloc_new (w.alloc (.cells #[.nilIface] 32)) #[.slice a L.length cap] 22 0; rw [World.size_alloc] at e; exact e) (hT.below hB0) (hg.below hB0) hL)
  have hc0 : W0.cell? ⟨w.heap.size, 0, none⟩ = some .nilIface ∧ W0.frozen? ⟨w.heap.size, 0, none⟩ = false := by
    rw [← hW0]; simp
  clear hT hg
  gi_wp2_with (refine ⟨trivial, ?_⟩; gi_at_call 61; refine (callsIn_wide.2 (faults_any _ _ _ _)).mono ?_; rintro e w' ⟨rfl, rfl⟩)
  clear hW0
  refine wpIn_rangeFunc_ownG (n := 3) rfl (by omega) (gf := 64) (lb := #[.pointer (some ⟨w.heap.size + 1, 0, none⟩)]) rfl trivial (enters_of Tryd.func64 (by kernel_rfl) rfl)
    HSQ.out belowK_t (belowK_b (Nat.le_refl _)) (Below.refl _ _) (fun _ => rfl)
    (fun pre W => (pre = [] ∧ W.cell? ⟨w.heap.size, 0, none⟩ = some .nilIface ∧ W.frozen? ⟨w.heap.size, 0, none⟩ = false) ∧ Below w.heap.size w W)
    (fun c pre W => (c = .ret ∧ ∃ x fv, pre = [x] ∧ W.cell? ⟨w.heap.size, 0, none⟩ = some fv ∧ Flt W fv w.heap.size x.1 (p x.2)) ∧ Below w.heap.size w W)
    (OwnFrom.and (Own.from (fun s A B row hs hg hr => ⟨hs.1, cell_kept hs.2.1 hg hr, (frozen_kept hs.2.1 hg hr).trans hs.2.2⟩) _) (ownFrom_below (Nat.le_refl _) (by omega)))
    (fun c => OwnFrom.and (Own.from (fun s A B row hs hg hr => by
      obtain ⟨rfl, x, fv, rfl, h1, h2⟩ := hs
      exact ⟨rfl, x, fv, rfl, cell_kept h1 hg hr, flt_kept h2 hg hr⟩) _) (ownFrom_below (Nat.le_refl _) (by omega)))
    ⟨⟨rfl, hc0⟩, hB0⟩
    (fun x => { tmps := #[.slice a L.length cap, undef, .pointer (some ⟨w.heap.size, 0, none⟩), .int .i64 (x.1 : Int), .iface 117 (.pointer (some (p x.2))), .slice a L.length cap, .func (.func 64) #[] #[.pointer (some ⟨w.heap.size + 1, 0, none⟩)], .int .i64 (x.1 : Int), .iface 117 (.pointer (some (p x.2))), undef, undef, undef, undef, undef], defers := [] }) ?assign ?body ?done ?stop
  case assign =>
    intro l x W K hK
    unfold encF
    gi_wp2
    exact hK
  case body =>
    rintro l pre x W ⟨⟨rfl, hc, hf⟩, hB⟩ _
    have hlt := lt_of_cell hc
    gi_wp2
    have hk1 : KeepsOthers W (W.setCell ⟨w.heap.size, 0, none⟩ (.iface 55 (.pointer (some ⟨W.heap.size, 0, none⟩)))) := KeepsOthers.setCell _ _ _
    refine ⟨(hk1.trans (KeepsOthers.alloc _ _)).from _, ⟨rfl, x, _, rfl, ?_, W.heap.size, by omega, rfl, ?_, ?_⟩, ?_⟩
    · rw [World.cell?_alloc_lt _ _ ⟨w.heap.size, 0, none⟩ (by simpa using hlt)]
      exact World.cell?_setCell_same _ _ _ hc
    · have e := World.cell?_alloc_new (W.setCell ⟨w.heap.size, 0, none⟩ (.iface 55 (.pointer (some ⟨W.heap.size, 0, none⟩)))) #[.int .i64 (x.1 : Int), .iface 117 (.pointer (some (p x.2)))] 59 0
      simpa using e
    · have e := World.cell?_alloc_new (W.setCell ⟨w.heap.size, 0, none⟩ (.iface 55 (.pointer (some ⟨W.heap.size, 0, none⟩)))) #[.int .i64 (x.1 : Int), .iface 117 (.pointer (some (p x.2)))] 59 1
      simpa using e
    · exact (hB.setCell (p := ⟨w.heap.size, 0, none⟩) (Nat.le_refl _) _).alloc (by simp; omega) _
  case done =>
    rintro D zs W hD rfl ⟨⟨hnil, hc, hf⟩, hB⟩ hK
    gi_wp2
    have hK' := (KeepsOthers.setCell W ⟨w.heap.size, 0, none⟩ .nilIface).same D _ hK rfl
    refine ⟨by simp, .inl ⟨_, _, rfl, run_takeDeferred hK', ?_⟩⟩
    have hc4 : (W.setCell ⟨w.heap.size, 0, none⟩ .nilIface).cell? ⟨w.heap.size, 0, none⟩ = some .nilIface := World.cell?_setCell_same _ _ _ hc
    have hc5 := cell_kept hc4 (grownBy_putObj' _ D (.deferred none)) (fun r e => by cases e; exact ⟨_, hK', rfl⟩)
    refine ⟨.nilIface, ?_, ⟨_, rfl, .inl ⟨by unfold chk; rw [hnil]; rfl, rfl⟩, (hB.setCell (p := ⟨w.heap.size, 0, none⟩) (Nat.le_refl _) _).trans (belowK_b (w := w) (Nat.le_refl _) _ D _ _ (by omega) hK' rfl rfl)⟩⟩
    simp [results, Tryd.f53, go_sem, hc5]
  case stop =>
    rintro D c pre W hD hpre ⟨⟨rfl, x, fv, rfl, hc, hf⟩, hB⟩ hK
    gi_wp2
    refine ⟨by simp, .inl ⟨_, _, rfl, run_takeDeferred hK, ?_⟩⟩
    have hc5 := cell_kept hc (grownBy_putObj' _ D (.deferred none)) (fun r e => by cases e; exact ⟨_, hK, rfl⟩)
    have hf5 := flt_kept hf (grownBy_putObj' _ D (.deferred none)) (fun r e => by cases e; exact ⟨_, hK, rfl⟩)
    have hx : chk L = x := head_of hpre.1
    have hx2 : x.2 ≠ 0 := faultsM_ne L x (hpre.1.subset (by simp))
    refine ⟨fv, ?_, ⟨_, rfl, .inr (by rw [hx]; exact ⟨hx2, hf5⟩), hB.trans (belowK_b (w := w) (Nat.le_refl _) W D _ _ (by omega) hK rfl rfl)⟩⟩
    simp [results, Tryd.f53, go_sem, hc5]
end Go.Proofs.YtcklfcoobccgcaaDoor

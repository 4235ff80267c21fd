/-
  What is proved here: what comp.Same answers.
-/
import Derived.Test.YtojpkkbagcahdaaDoorKC
namespace Go.Proofs.YtojpkkbagcahdaaDoor
open Go.RowKit

theorem runes_inj {w : World} {v : Value} {l m : List Int} (h1 : Runes w v l) (h2 : Runes w v m) : l = m := by
  obtain ⟨a, c, rfl, h1⟩ := h1
  obtain ⟨a', c', e, h2⟩ := h2
  injection e with e1 e2 e3
  subst e1
  refine List.ext_getElem e2 fun i i1 i2 => ?_
  obtain ⟨b, off, rfl, q1⟩ := h1 i i1
  obtain ⟨b', off', e4, q2⟩ := h2 i i2
  injection e4 with e4
  injection e4 with e5 e6
  subst e5 e6
  rw [q1] at q2
  simpa [List.getD, i1, i2] using q2
theorem two_lists {w : World} {v v' : Value} {l m : List Int} (h1 : Runes w v l) (h2 : Runes w v' m) : ∃ LL : Value → List Int, LL v = l ∧ LL v' = m := by
  by_cases h : v' = v
  · subst h
    exact ⟨fun _ => l, rfl, runes_inj h1 h2⟩
  · haveI := Classical.propDecidable
    exact ⟨fun x => if x = v then l else m, if_pos rfl, if_neg h⟩
set_option maxRecDepth 20000 in
set_option maxHeartbeats 8000000 in
theorem compSame_any (a : Option Addr) (cap : Nat) (vc ve : Value) (t : Nm) (vl vm : Value) (l m : List Int) (w : World) (hg : Hg w) (hN : NormAt w a cap vc ve t) (hvl : Runes w vl l) (hvm : Runes w vm m) (hl : (apartM t.rows l).length ≤ 2147483) (hm : (apartM t.rows m).length ≤ 2147483) (hll : l.length ≤ 2147483) (hlm : m.length ≤ 2147483) :
    Calls Tryd.prog 18 #[.agg #[.slice a t.rows.length cap, vc, ve], vl, vm] w fun e w' => e = .returned (.bool (decM t l == decM t m)) ∧ Below w.heap.size w w' := by
  have mixed : Tryd.prog.follows .mixedOrders = true := by kernel_rfl
  obtain ⟨W0, hW0, hsz, hb0, e0, e1, e2⟩ := norm_box w (.slice a t.rows.length cap) vc ve
  obtain ⟨ca, ccap, rfl, -⟩ := id hN.C
  obtain ⟨ea, ecap, rfl, -⟩ := id hN.E
  obtain ⟨ql, cl, rfl, -⟩ := id hvl
  obtain ⟨qm, cm, rfl, -⟩ := id hvm
  have HEE : Hid (∀ W, Below W0.heap.size W0 W → (W.cell? ⟨w.heap.size, 0, none⟩ = some (.slice a t.rows.length cap) ∧ W.cell? ⟨w.heap.size, 1, none⟩ = some (.slice ca t.cls.length ccap) ∧ W.cell? ⟨w.heap.size, 2, none⟩ = some (.slice ea t.exc.length ecap)) ∧ Below w.heap.size w W) := fun W hb => ⟨⟨(hb.cell (lt_of_cell e0)).trans e0, (hb.cell (lt_of_cell e1)).trans e1, (hb.cell (lt_of_cell e2)).trans e2⟩, hb0.trans (hb.mono hb0.size)⟩
  obtain ⟨LL, hLA, hLB⟩ := two_lists hvl hvm
  have HLA := Hid.mk' hLA
  have HLB := Hid.mk' hLB
  have HAL : Hid (∀ W v, Below w.heap.size w W → (v = Value.slice ql l.length cl ∨ v = Value.slice qm m.length cm) → _) := fun W v hb hh => decAll_any a cap (.slice ca t.cls.length ccap) (.slice ea t.exc.length ecap) t v (LL v) W (hg.below hb) (hN.below hb) (by rcases hh with rfl | rfl; rw [hLA]; exact hvl.below hb; rw [hLB]; exact hvm.below hb) (by rcases hh with rfl | rfl; rw [hLA]; exact hl; rw [hLB]; exact hm) (by rcases hh with rfl | rfl; rw [hLA]; exact hll; rw [hLB]; exact hlm)
  have HEQ : Hid (∀ W vx vy, Runes W vx (decM t l) → Runes W vy (decM t m) → _) := fun W vx vy h1 h2 => equal_any vx vy (decM t l) (decM t m) W (by rw [decM_len]; omega) h1 h2
  generalize (decM t l == decM t m) = q at HEQ ⊢
  have hz := HEE.out W0.drew (Below.refl _ _).drew
  have hzb : Below W0.heap.size W0 W0.drew := (Below.refl _ _).drew
  have HTR : Hid (∀ W W', Below W0.heap.size W0 W → Below W.heap.size W W' → Below W0.heap.size W0 W') := fun W W' h h' => h.trans (h'.mono h.size)
  clear hg hN hvl hvm hl hm hll hlm hb0 e0 e1 e2 hLA hLB
  go_enter Tryd.func18, Tryd.ntmps18
  go_wp2
  go_region_held3 (fun w' => (w'.cell? ⟨w.heap.size, 0, none⟩ = some (.slice a t.rows.length cap) ∧ w'.cell? ⟨w.heap.size, 1, none⟩ = some (.slice ca t.cls.length ccap) ∧ w'.cell? ⟨w.heap.size, 2, none⟩ = some (.slice ea t.exc.length ecap))) (first | exact hz.1 | exact (HEE.out _ (by assumption)).1) (first
    | (go_at_call 12; refine (HAL.out _ _ ?_ ?_).mono ?_; exact (HEE.out _ (by assumption)).2; (first | exact .inl rfl | exact .inr rfl); (try (have rP := rA)); rintro e wA ⟨vA, rfl, hoA, hbA⟩; (first | rw [HLA.out] at hoA | rw [HLB.out] at hoA); obtain ⟨aA, cA, rfl⟩ := own_slice hoA; have rA := Runes.own hoA; have hzA := HTR.out _ _ (by assumption) hbA; (try (have rQ := rP.below hbA)))
    | (go_at_call 33; refine (HEQ.out _ _ _ ?_ ?_).mono ?_; assumption; assumption; rintro e wE ⟨rfl, hbE⟩; have hzE := HTR.out _ _ (by assumption) hbE))
  all_goals
    go_wp2
    go_ret
    exact ⟨rfl, (HEE.out _ (by assumption)).2⟩
end Go.Proofs.YtojpkkbagcahdaaDoor

/-
  What is proved here: what comp's All, Is and Same answer, and the reference's All.
-/
import Derived.Test.YtojpkkbagcahdaaDoorKQ
import Derived.Test.YtojpkkbagcahdaaDoorSc
import Derived.Test.YtojpkkbagcahdaaDoorSg
namespace Go.Proofs.YtojpkkbagcahdaaDoor
open Go.RowKit Go.Sort

/-- runes taken apart -/
def decM (t : Nm) (l : List Int) : List Int := orderM (classOf t.cls) (apartM t.rows l)
/-- the composed form -/
def compM (t : Nm) (l : List Int) : List Int := putM (classOf t.cls) (pairM t) (decM t l)
theorem decM_len (t : Nm) (l : List Int) : (decM t l).length = (apartM t.rows l).length := (orderM_perm _ _).length_eq
theorem decAll_any (a : Option Addr) (cap : Nat) (vc ve : Value) (t : Nm) (v : Value) (l : List Int) (w : World) (hg : Hg w) (hN : NormAt w a cap vc ve t) (hv : Runes w v l) (hbig : (apartM t.rows l).length ≤ 2147483) (hll : l.length ≤ 2147483) :
    Calls Tryd.prog 12 #[.agg #[.slice a t.rows.length cap, vc, ve], v] w fun e w' => ∃ v', e = .returned v' ∧ w'.ownsRow w.heap.size 21 1 v' (decM t l).length ((decM t l).map (Value.int .i32)) ∧ Below w.heap.size w w' := by
  obtain ⟨-, -, hap, hri⟩ := right_parts hN.right.cls
  rw [decM_len]
  exact all_any a cap vc ve t.rows hN.cap t.cls v l w hg hN.R hN.right.len hN.right.row hN.C (by have := hN.lc; omega) hri hap hv (by omega) (by omega)
set_option maxRecDepth 20000 in
set_option maxHeartbeats 4000000 in
theorem compAll_any (a : Option Addr) (cap : Nat) (vc ve : Value) (t : Nm) (v : Value) (l : List Int) (w : World) (hg : Hg w) (hN : NormAt w a cap vc ve t) (hv : Runes w v l) (hbig : (apartM t.rows l).length ≤ 2147483) (hll : l.length ≤ 2147483) :
    Calls Tryd.prog 16 #[.agg #[.slice a t.rows.length cap, vc, ve], v] w fun e w' => ∃ v', e = .returned v' ∧ w'.ownsRow w.heap.size 21 1 v' (compM t l).length ((compM t l).map (Value.int .i32)) ∧ Below w.heap.size w w' := by
  obtain ⟨W0, hW0, hsz, hb0, e0, e1, e2⟩ := norm_box w (.slice a t.rows.length cap) vc ve
  have HAL : Hid (∀ W, Below w.heap.size w W → _) := fun W hb => decAll_any a cap vc ve t v l W (hg.below hb) (hN.below hb) (hv.below hb) hbig hll
  have HPU : Hid (∀ W v2, Below w.heap.size w W → Runes W v2 (decM t l) → _) := fun W v2 hb hr => put_any a cap vc ve t v2 (decM t l) W (hN.below hb) hr (by rw [decM_len]; exact hbig)
  obtain ⟨va, vcp, rfl, -⟩ := id hv
  obtain ⟨ca, ccap, rfl, -⟩ := id hN.C
  obtain ⟨ea, ecap, rfl, -⟩ := id hN.E
  have HEE : Hid (∀ W, Below W0.heap.size W0 W → (W.cell? ⟨w.heap.size, 0, none⟩ = some (.slice a t.rows.length cap) ∧ W.cell? ⟨w.heap.size, 1, none⟩ = some (.slice ca t.cls.length ccap) ∧ W.cell? ⟨w.heap.size, 2, none⟩ = some (.slice ea t.exc.length ecap)) ∧ Below w.heap.size w W) := fun W hb => ⟨⟨(hb.cell (lt_of_cell e0)).trans e0, (hb.cell (lt_of_cell e1)).trans e1, (hb.cell (lt_of_cell e2)).trans e2⟩, hb0.trans (hb.mono hb0.size)⟩
  have HTR : Hid (∀ W W', Below W0.heap.size W0 W → Below W.heap.size W W' → Below W0.heap.size W0 W') := fun W W' h h' => h.trans (h'.mono h.size)
  show Calls _ _ _ _ fun e w' => ∃ v', e = .returned v' ∧ w'.ownsRow w.heap.size 21 1 v' (putM (classOf t.cls) (pairM t) (decM t l)).length ((putM (classOf t.cls) (pairM t) (decM t l)).map (Value.int .i32)) ∧ Below w.heap.size w w'
  generalize putM (classOf t.cls) (pairM t) (decM t l) = res at *
  generalize decM t l = dl at *
  have hzb : Below W0.heap.size W0 W0.drew := (Below.refl _ _).drew
  have hz := HEE.out W0.drew hzb
  have HW := Hid.mk' (HEE.out W0 (Below.refl _ _)).2.size
  clear hg hN hv e0 e1 e2 hbig hll hb0
  go_enter Tryd.func16, Tryd.ntmps16
  go_wp2
  go_region_held3 (fun w' => (w'.cell? ⟨w.heap.size, 0, none⟩ = some (.slice a t.rows.length cap) ∧ w'.cell? ⟨w.heap.size, 1, none⟩ = some (.slice ca t.cls.length ccap) ∧ w'.cell? ⟨w.heap.size, 2, none⟩ = some (.slice ea t.exc.length ecap))) (first | exact hz.1 | exact (HEE.out _ (by assumption)).1) (first
    | (go_at_call 12; refine (HAL.out _ ?_).mono ?_; exact (HEE.out _ (by assumption)).2; rintro e wA ⟨vA, rfl, hoA, hbA⟩; obtain ⟨aA, cA, rfl⟩ := own_slice hoA; have rA := Runes.own hoA; have hzA := HTR.out _ _ hzb hbA)
    | (go_at_call 34; refine (HPU.out _ _ ?_ rA).mono ?_; exact (HEE.out _ (by assumption)).2; rintro e wB ⟨vB, rfl, hoB, hbB⟩; obtain ⟨aB, cB, rfl⟩ := own_slice hoB; have hzB := HTR.out _ _ hzA hbB))
  all_goals
    go_wp2
    go_ret
    exact ⟨_, rfl, own_weaken hoB (HEE.out _ hzA).2.size, (HEE.out _ hzB).2⟩
set_option maxRecDepth 20000 in
set_option maxHeartbeats 4000000 in
theorem compIs_any (a : Option Addr) (cap : Nat) (vc ve : Value) (t : Nm) (v : Value) (l : List Int) (w : World) (hg : Hg w) (hN : NormAt w a cap vc ve t) (hv : Runes w v l) (hbig : (apartM t.rows l).length ≤ 2147483) (hll : l.length ≤ 2147483) :
    Calls Tryd.prog 17 #[.agg #[.slice a t.rows.length cap, vc, ve], v] w fun e w' => e = .returned (.bool (compM t l == l)) ∧ Below w.heap.size w w' := by
  obtain ⟨W0, hW0, hsz, hb0, e0, e1, e2⟩ := norm_box w (.slice a t.rows.length cap) vc ve
  have HAL := Hid.mk' (compAll_any a cap vc ve t v l W0 (hg.below hb0) (hN.below hb0) (hv.below hb0) hbig hll)
  have hcl : (compM t l).length ≤ 2147483 := by
    have := put_len (classOf t.cls) (pairM t) (decM t l)
    rw [decM_len] at this
    unfold compM; omega
  have HEQ : Hid (∀ W v2, Below w.heap.size w W → Runes W v2 (compM t l) → _) := fun W v2 hb hr => equal_any v2 v (compM t l) l W (by omega) hr (hv.below hb)
  obtain ⟨va, vcp, rfl, -⟩ := id hv
  obtain ⟨ca, ccap, rfl, -⟩ := id hN.C
  obtain ⟨ea, ecap, rfl, -⟩ := id hN.E
  clear hg hN hv hbig hll
  generalize compM t l = res at *
  generalize (res == l) = q at *
  have HB0 := Hid.mk' hb0
  clear hb0
  go_enter Tryd.func17, Tryd.ntmps17
  go_wp2_with fail
  refine HAL.out.mono ?_
  rintro e w1 ⟨v1, rfl, ho1, hb1⟩
  obtain ⟨xa, xc, rfl⟩ := own_slice ho1
  have hb01 : Below w.heap.size w w1 := HB0.out.trans (hb1.mono HB0.out.size)
  have HE1 := Hid.mk' (HEQ.out w1 _ hb01 (Runes.own ho1))
  clear ho1
  go_wp2_with fail
  refine HE1.out.mono ?_
  rintro e w2 ⟨rfl, hb2⟩
  go_wp2
  go_ret
  exact ⟨rfl, hb01.trans (hb2.mono hb01.size)⟩
end Go.Proofs.YtojpkkbagcahdaaDoor

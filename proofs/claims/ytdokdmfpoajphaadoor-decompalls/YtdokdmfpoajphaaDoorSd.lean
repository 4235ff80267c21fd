/-
  What is proved here: toward the reference's Order: the sum of place times class, its Class with the world told.
-/
import Derived.Test.YtdokdmfpoajphaaDoorSb
namespace Go.Proofs.YtdokdmfpoajphaaDoor
open Go.RowKit Go.Sort

/-- the sum of place times class (classes below 0 count 0, above 254 as 254) -/
def wgt (c : Int → Int) : Nat → List Int → Nat
  | _, [] => 0
  | k, x :: l => k * (min (c x) 254).toNat + wgt c (k + 1) l
theorem wgt_append (c : Int → Int) (k : Nat) (l l' : List Int) : wgt c k (l ++ l') = wgt c k l + wgt c (k + l.length) l' := by
  induction l generalizing k with
  | nil => simp [wgt]
  | cons x l ih =>
    simp only [List.cons_append, wgt, List.length_cons]
    rw [ih, show k + 1 + l.length = k + (l.length + 1) by omega]
    omega
theorem wgt_le (c : Int → Int) (k : Nat) (l : List Int) : wgt c k l ≤ l.length * ((k + l.length) * 254) := by
  induction l generalizing k with
  | nil => simp [wgt]
  | cons x l ih =>
    have h1 := ih (k + 1)
    have h2 : k * (min (c x) 254).toNat ≤ (k + (l.length + 1)) * 254 := Nat.mul_le_mul (by omega) (by omega)
    have h3 : k + 1 + l.length = k + (l.length + 1) := by omega
    rw [h3] at h1
    simp only [wgt, List.length_cons]
    rw [Nat.succ_mul]
    omega
theorem wgt_swap (c : Int → Int) (P Q : List Int) (x y : Int) (hy : 0 < c y) (hxy : c y < c x) (hx : c x ≤ 254) : wgt c 0 (P ++ x :: y :: Q) < wgt c 0 (P ++ y :: x :: Q) := by
  rw [wgt_append, wgt_append]
  simp only [wgt]
  obtain ⟨p, hp⟩ : ∃ p, 0 + P.length = p := ⟨_, rfl⟩
  rw [hp]
  obtain ⟨a, ha⟩ : ∃ a : Nat, (min (c x) 254).toNat = a := ⟨_, rfl⟩
  obtain ⟨b, hb⟩ : ∃ b : Nat, (min (c y) 254).toNat = b := ⟨_, rfl⟩
  have hab : b < a := by omega
  rw [ha, hb, Nat.add_mul, Nat.add_mul]
  omega
set_option maxHeartbeats 1000000 in
theorem refClass_g (vr vc ve : Value) (l : List Rg) (r : Int) (w : World) (hT : Tab w vc l) (hl : l.length ≤ 2147483648) :
    Calls Tryd.prog 36 #[.agg #[vr, vc, ve], .int .i32 r] w fun e w' => e = .returned (.int .i64 (classOf l r)) ∧ Bl w.heap.size w w' := by
  obtain ⟨W0, hW0, hsz, hb0, e0, e1, e2⟩ := norm_box w vr vc ve
  have HF := Hid.mk' (refFind_any vc l r W0 (hT.below hb0) hl)
  unfold foundV at HF
  unfold classOf
  generalize find l r = o at *
  generalize o.getD 0 = o1 at *
  generalize o.isSome = o2 at *
  obtain ⟨a, cap, rfl, -⟩ := hT
  clear e0 e2
  go_enter Tryd.func36, Tryd.ntmps36
  go_wp2_with fail
  refine HF.out.mono ?_
  rintro e w1 ⟨rfl, rfl⟩
  go_wp2
  go_ret
  rw [← hW0]
  exact ⟨rfl, (Bl.refl _ _).alloc (Nat.le_refl _) _⟩
end Go.Proofs.YtdokdmfpoajphaaDoor

/-
  What is proved here: what the laws of layer 5's awake answers.
-/
import Derived.Test.YtojpkkbagcahdaaDoorQ8
import Derived.Test.YtojpkkbagcahdaaDoorKB
namespace Go.Proofs.YtojpkkbagcahdaaDoor
open Go.RowKit

theorem exNorm_comp1 : compM exNorm [101, 769] = [233] := by decide
theorem exNorm_comp2 : compM exNorm [4352, 4449, 4520] = [44033] := by decide
theorem exNorm_ap1 : (apartM exNorm.rows [101, 769]).length ≤ 2147483 := by decide
theorem exNorm_ap2 : (apartM exNorm.rows [4352, 4449, 4520]).length ≤ 2147483 := by decide
set_option maxRecDepth 20000 in
set_option maxHeartbeats 4000000 in
theorem awake5_any (w : World) (hg : Hg w) :
    Calls Tryd.prog 15 #[] w fun e w' => e = .returned (.bool true) ∧ Below w.heap.size w w' := by
  obtain ⟨W1, hW1⟩ : ∃ W1, w.alloc (.cells #[.int .i32 101, .int .i32 769] 21) = W1 := ⟨_, rfl⟩
  have z1 : W1.heap.size = w.heap.size + 1 := by rw [← hW1, World.size_alloc]
  have R1 : Runes W1 (.slice (some ⟨w.heap.size, 0, none⟩) 2 2) [101, 769] := by rw [← hW1]; exact runes_new w [101, 769]
  have b1 : Below w.heap.size w W1 := by rw [← hW1]; exact (Below.refl _ _).alloc (Nat.le_refl _) _
  obtain ⟨W2, hW2⟩ : ∃ W2, W1.alloc (.cells #[.int .i32 233, .slice (some ⟨w.heap.size, 0, none⟩) 2 2] 40) = W2 := ⟨_, rfl⟩
  have z2 : W2.heap.size = w.heap.size + 2 := by rw [← hW2, World.size_alloc, z1]
  have b2 : Below W1.heap.size W1 W2 := by rw [← hW2]; exact (Below.refl _ _).alloc (Nat.le_refl _) _
  have R2 : Rows4 W2 (.slice (some ⟨w.heap.size + 1, 0, none⟩) 1 1) exNorm.rows := by
    refine ⟨_, _, rfl, fun j hj => ?_⟩
    obtain rfl : j = 0 := by simp [exNorm] at hj; omega
    refine ⟨w.heap.size + 1, 0, .slice (some ⟨w.heap.size, 0, none⟩) 2 2, rfl, ?_, ?_, R1.below b2⟩
    · rw [← hW2, ← z1, World.cell?_alloc_new]; rfl
    · rw [← hW2, ← z1, World.cell?_alloc_new]; rfl
  obtain ⟨W3, hW3⟩ : ∃ W3, W2.alloc (.cells #[.int .i32 769, .int .i32 769, .int .i64 230] 42) = W3 := ⟨_, rfl⟩
  have z3 : W3.heap.size = w.heap.size + 3 := by rw [← hW3, World.size_alloc, z2]
  have b3 : Below W2.heap.size W2 W3 := by rw [← hW3]; exact (Below.refl _ _).alloc (Nat.le_refl _) _
  have R3 : Tab W3 (.slice (some ⟨w.heap.size + 2, 0, none⟩) 1 1) exNorm.cls := by
    refine ⟨_, _, rfl, fun j hj => ⟨w.heap.size + 2, 0, rfl, fun i hi => ?_⟩⟩
    obtain rfl : j = 0 := by simp [exNorm] at hj; omega
    rw [Nat.zero_mul, Nat.add_zero, Nat.zero_add, ← hW3, ← z2, World.cell?_alloc_new]
    simp [Rg.cells, exNorm]
  obtain ⟨W4, hW4⟩ : ∃ W4, W3.alloc (.cells #[.slice (some ⟨w.heap.size + 1, 0, none⟩) 1 1, .slice (some ⟨w.heap.size + 2, 0, none⟩) 1 1, .slice none 0 0] 26) = W4 := ⟨_, rfl⟩
  have z4 : W4.heap.size = w.heap.size + 4 := by rw [← hW4, World.size_alloc, z3]
  have b4 : Below W3.heap.size W3 W4 := by rw [← hW4]; exact (Below.refl _ _).alloc (Nat.le_refl _) _
  have b04 : Below w.heap.size w W4 := b1.trans ((b2.trans ((b3.trans (b4.mono (by omega))).mono (by omega))).mono (by omega))
  have b24 : Below W2.heap.size W2 W4 := b3.trans (b4.mono (by omega))
  have e0 : W4.cell? ⟨w.heap.size + 3, 0, none⟩ = some (.slice (some ⟨w.heap.size + 1, 0, none⟩) 1 1) := by rw [← hW4, ← z3, World.cell?_alloc_new]; rfl
  have e1 : W4.cell? ⟨w.heap.size + 3, 1, none⟩ = some (.slice (some ⟨w.heap.size + 2, 0, none⟩) 1 1) := by rw [← hW4, ← z3, World.cell?_alloc_new]; rfl
  have e2 : W4.cell? ⟨w.heap.size + 3, 2, none⟩ = some (.slice none 0 0) := by rw [← hW4, ← z3, World.cell?_alloc_new]; rfl
  have HN : Hid (∀ W, Below W4.heap.size W4 W → NormAt W (some ⟨w.heap.size + 1, 0, none⟩) 1 (.slice (some ⟨w.heap.size + 2, 0, none⟩) 1 1) (.slice none 0 0) exNorm) := fun W hb => ⟨(R2.below b24).below hb, (R3.below b4).below hb, runes_nil _, by decide, by decide, right4 (by rw [exNorm_chk])⟩
  have HG : Hid (∀ W, Below W4.heap.size W4 W → Hg W) := fun W hb => (hg.below b04).below hb
  have HE : Hid (∀ W, Below W4.heap.size W4 W → W.cell? ⟨w.heap.size + 3, 0, none⟩ = some (.slice (some ⟨w.heap.size + 1, 0, none⟩) 1 1) ∧ W.cell? ⟨w.heap.size + 3, 1, none⟩ = some (.slice (some ⟨w.heap.size + 2, 0, none⟩) 1 1) ∧ W.cell? ⟨w.heap.size + 3, 2, none⟩ = some (.slice none 0 0)) := fun W hb => ⟨(hb.cell (lt_of_cell e0)).trans e0, (hb.cell (lt_of_cell e1)).trans e1, (hb.cell (lt_of_cell e2)).trans e2⟩
  have HAL : Hid (∀ W rs out, Below W4.heap.size W4 W → compM exNorm rs = out → (apartM exNorm.rows rs).length ≤ 2147483 → rs.length ≤ 2147483 → Calls Tryd.prog 16 #[.agg #[.slice (some ⟨w.heap.size + 1, 0, none⟩) 1 1, .slice (some ⟨w.heap.size + 2, 0, none⟩) 1 1, .slice none 0 0], .slice (some ⟨W.heap.size, 0, none⟩) rs.length rs.length] (W.alloc (.cells (rs.map (Value.int .i32)).toArray 21)) fun e w' => ∃ v, e = .returned v ∧ Runes w' v out ∧ Below W.heap.size W w') := fun W rs out hb ho h1 h2 => by
    have hbA : Below W.heap.size W (W.alloc (.cells (rs.map (Value.int .i32)).toArray 21)) := (Below.refl _ _).alloc (Nat.le_refl _) _
    have hb' := hb.trans (hbA.mono hb.size)
    refine (compAll_any (some ⟨w.heap.size + 1, 0, none⟩) 1 _ _ exNorm _ rs _ (HG.out _ hb') (HN.out _ hb') (runes_new W rs) h1 h2).mono ?_
    rintro e w' ⟨v, rfl, hown, hb2⟩
    rw [ho] at hown
    exact ⟨v, rfl, Runes.own hown, hbA.trans (hb2.mono hbA.size)⟩
  have HS : Hid (∀ W v rs, Runes W v rs → rs.length ≤ 268435456 → Calls Tryd.prog 14 #[v, .slice (some ⟨W.heap.size, 0, none⟩) rs.length rs.length] (W.alloc (.cells (rs.map (Value.int .i32)).toArray 21)) fun e w' => e = .returned (.bool true) ∧ Below W.heap.size W w') := fun W v rs hv hl => by
    refine (same_any v _ rs (W.alloc (.cells (rs.map (Value.int .i32)).toArray 21)) hl (hv.below ((Below.refl _ _).alloc (Nat.le_refl _) _)) (runes_new W rs)).mono ?_
    rintro e w' ⟨rfl, hb⟩
    exact ⟨rfl, ((Below.refl _ _).alloc (Nat.le_refl _) _).trans (hb.mono (by simp))⟩
  have HB04 := Hid.mk' b04
  have Hsz : Hid (w.heap.size ≤ W4.heap.size) := by show _ ≤ _; omega
  have HW4 := Hid.mk' hW4
  have HA1 : Hid (∀ b, b = W4.heap.size → Calls Tryd.prog 16 #[.agg #[.slice (some ⟨w.heap.size + 1, 0, none⟩) 1 1, .slice (some ⟨w.heap.size + 2, 0, none⟩) 1 1, .slice none 0 0], .slice (some ⟨b, 0, none⟩) 2 2] (W4.alloc (.cells #[.int .i32 101, .int .i32 769] 21)) fun e w' => ∃ v, e = .returned v ∧ Runes w' v [233] ∧ Below W4.heap.size W4 w') := fun b hb => by
    subst hb
    exact HAL.out W4 [101, 769] [233] (Below.refl _ _) exNorm_comp1 exNorm_ap1 (by decide)
  clear hg R1 R2 R3 b1 b2 b3 b4 b04 b24 HN HG hW4 e0 e1 e2
  go_enter Tryd.func15, Tryd.ntmps15
  go_wp2_with fail
  rw [HW4.out]
  refine (HA1.out _ ?_).mono ?_
  · omega
  rintro e w5 ⟨v5, rfl, r5, hb5⟩
  have HS5 := Hid.mk' (HS.out w5 v5 [233] r5 (by decide))
  obtain ⟨va, vc, rfl, -⟩ := r5
  go_wp2_with fail
  refine HS5.out.mono ?_
  rintro e w6 ⟨rfl, hb6⟩
  have hb46 := hb5.trans (hb6.mono hb5.size)
  obtain ⟨p0, p1, p2⟩ := HE.out w6 hb46
  have HA2 := Hid.mk' (HAL.out w6 [4352, 4449, 4520] [44033] hb46 exNorm_comp2 exNorm_ap2 (by decide))
  go_wp2_with fail
  refine HA2.out.mono ?_
  rintro e w7 ⟨v7, rfl, r7, hb7⟩
  have hb47 := hb46.trans (hb7.mono hb46.size)
  have HS7 := Hid.mk' (HS.out w7 v7 [44033] r7 (by decide))
  obtain ⟨vb, vd, rfl, -⟩ := r7
  clear p0 p1 p2
  go_wp2_with fail
  refine HS7.out.mono ?_
  rintro e w8 ⟨rfl, hb8⟩
  have hb48 := hb47.trans (hb8.mono hb47.size)
  go_wp2
  go_ret
  exact ⟨rfl, HB04.out.trans (hb48.mono Hsz.out)⟩
end Go.Proofs.YtojpkkbagcahdaaDoor

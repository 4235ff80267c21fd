/-
  What is proved here: what the laws of layer 4's awake answers.
-/
import Derived.Test.YtojpkkbagcahdaaDoorB4
namespace Go.Proofs.YtojpkkbagcahdaaDoor
open Go.RowKit

/-- runes of new memory -/
theorem runes_new (w : World) (rs : List Int) : Runes (w.alloc (.cells (rs.map (Value.int .i32)).toArray 21)) (.slice (some ⟨w.heap.size, 0, none⟩) rs.length rs.length) rs := by
  refine ⟨_, _, rfl, fun j hj => ⟨w.heap.size, 0, rfl, ?_⟩⟩
  rw [Nat.zero_add, World.cell?_alloc_new]
  simp [List.getElem?_eq_getElem hj]
theorem runes_nil (w : World) : Runes w (.slice none 0 0) [] := ⟨none, 0, rfl, fun j hj => by simp at hj⟩
set_option maxRecDepth 20000 in
set_option maxHeartbeats 4000000 in
theorem awake4_any (w : World) (p : Nat → Addr) (hg : Gl p w) :
    Calls Tryd.prog 7 #[] w fun e w' => e = .returned (.bool true) ∧ Below w.heap.size w w' := by
  obtain ⟨W1, hW1⟩ : ∃ W1, w.alloc (.cells #[.int .i32 101, .int .i32 769] 21) = W1 := ⟨_, rfl⟩
  have z1 : W1.heap.size = w.heap.size + 1 := by rw [← hW1, World.size_alloc]
  have R1 : Runes W1 (.slice (some ⟨w.heap.size, 0, none⟩) 2 2) [101, 769] := by rw [← hW1]; exact runes_new w [101, 769]
  have b1 : Below w.heap.size w W1 := by rw [← hW1]; exact (Below.refl _ _).alloc (Nat.le_refl _) _
  obtain ⟨W2, hW2⟩ : ∃ W2, W1.alloc (.cells #[.int .i32 233, .slice (some ⟨w.heap.size, 0, none⟩) 2 2] 40) = W2 := ⟨_, rfl⟩
  have z2 : W2.heap.size = w.heap.size + 2 := by rw [← hW2, World.size_alloc, z1]
  have b2 : Below W1.heap.size W1 W2 := by rw [← hW2]; exact (Below.refl _ _).alloc (Nat.le_refl _) _
  have R2 : Rows4 W2 (.slice (some ⟨w.heap.size + 1, 0, none⟩) 1 1) exNorm.rows := by
    refine ⟨_, _, rfl, fun j hj => ?_⟩
    obtain rfl : j = 0 := by simp [exNorm] at hj; omega
    refine ⟨w.heap.size + 1, 0, .slice (some ⟨w.heap.size, 0, none⟩) 2 2, rfl, ?_, ?_, R1.below b2⟩
    · rw [← hW2, ← z1, World.cell?_alloc_new]; rfl
    · rw [← hW2, ← z1, World.cell?_alloc_new]; rfl
  obtain ⟨W3, hW3⟩ : ∃ W3, W2.alloc (.cells #[.int .i32 769, .int .i32 769, .int .i64 230] 42) = W3 := ⟨_, rfl⟩
  have z3 : W3.heap.size = w.heap.size + 3 := by rw [← hW3, World.size_alloc, z2]
  have b3 : Below W2.heap.size W2 W3 := by rw [← hW3]; exact (Below.refl _ _).alloc (Nat.le_refl _) _
  have R3 : Tab W3 (.slice (some ⟨w.heap.size + 2, 0, none⟩) 1 1) exNorm.cls := by
    refine ⟨_, _, rfl, fun j hj => ⟨w.heap.size + 2, 0, rfl, fun i hi => ?_⟩⟩
    obtain rfl : j = 0 := by simp [exNorm] at hj; omega
    rw [Nat.zero_mul, Nat.add_zero, Nat.zero_add, ← hW3, ← z2, World.cell?_alloc_new]
    simp [Rg.cells, exNorm]
  obtain ⟨W4, hW4⟩ : ∃ W4, W3.alloc (.cells #[.slice (some ⟨w.heap.size + 1, 0, none⟩) 1 1, .slice (some ⟨w.heap.size + 2, 0, none⟩) 1 1, .slice none 0 0] 26) = W4 := ⟨_, rfl⟩
  have z4 : W4.heap.size = w.heap.size + 4 := by rw [← hW4, World.size_alloc, z3]
  have b4 : Below W3.heap.size W3 W4 := by rw [← hW4]; exact (Below.refl _ _).alloc (Nat.le_refl _) _
  have b04 : Below w.heap.size w W4 := b1.trans ((b2.trans ((b3.trans (b4.mono (by omega))).mono (by omega))).mono (by omega))
  have b24 : Below W2.heap.size W2 W4 := b3.trans (b4.mono (by omega))
  have e0 : W4.cell? ⟨w.heap.size + 3, 0, none⟩ = some (.slice (some ⟨w.heap.size + 1, 0, none⟩) 1 1) := by rw [← hW4, ← z3, World.cell?_alloc_new]; rfl
  have e1 : W4.cell? ⟨w.heap.size + 3, 1, none⟩ = some (.slice (some ⟨w.heap.size + 2, 0, none⟩) 1 1) := by rw [← hW4, ← z3, World.cell?_alloc_new]; rfl
  have e2 : W4.cell? ⟨w.heap.size + 3, 2, none⟩ = some (.slice none 0 0) := by rw [← hW4, ← z3, World.cell?_alloc_new]; rfl
  have HR : Hid (∀ W, Below W4.heap.size W4 W → Rows4 W (.slice (some ⟨w.heap.size + 1, 0, none⟩) 1 1) exNorm.rows) := fun W hb => (R2.below b24).below hb
  have HG : Hid (∀ W, Below W4.heap.size W4 W → Gl p W) := fun W hb => (hg.below b04).below hb
  have HE : Hid (∀ W, Below W4.heap.size W4 W → W.cell? ⟨w.heap.size + 3, 0, none⟩ = some (.slice (some ⟨w.heap.size + 1, 0, none⟩) 1 1) ∧ W.cell? ⟨w.heap.size + 3, 1, none⟩ = some (.slice (some ⟨w.heap.size + 2, 0, none⟩) 1 1) ∧ W.cell? ⟨w.heap.size + 3, 2, none⟩ = some (.slice none 0 0)) := fun W hb => ⟨(hb.cell (lt_of_cell e0)).trans e0, (hb.cell (lt_of_cell e1)).trans e1, (hb.cell (lt_of_cell e2)).trans e2⟩
  have hrc : ∀ i, i < exNorm.rows.length → rowCode exNorm.rows i = 0 := (right4 (by rw [exNorm_chk])).row
  have HCk : Hid (Calls Tryd.prog 11 #[.agg #[.slice (some ⟨w.heap.size + 1, 0, none⟩) 1 1, .slice (some ⟨w.heap.size + 2, 0, none⟩) 1 1, .slice none 0 0]] W4 fun e w' => e = .returned .nilIface ∧ Below W4.heap.size W4 w') := by
    refine (check4_any (some ⟨w.heap.size + 1, 0, none⟩) 1 (.slice (some ⟨w.heap.size + 2, 0, none⟩) 1 1) (.slice none 0 0) exNorm (by decide) W4 p (hg.below b04) (R2.below b24) (R3.below b4) (runes_nil _) (by decide) (by decide) (by decide) (fun i hi => ?_) (fun _ B => sort_one B)).mono ?_
    · obtain rfl : i = 0 := by simp [exNorm] at hi; omega
      decide
    · rintro e w' ⟨fv, rfl, hs, hb⟩
      rw [exNorm_chk] at hs
      rcases hs with ⟨-, rfl⟩ | ⟨h, -⟩
      · exact ⟨rfl, hb⟩
      · simp at h
  have HO1 : Hid (∀ W, Below W4.heap.size W4 W → Calls Tryd.prog 19 #[.agg #[.slice (some ⟨w.heap.size + 1, 0, none⟩) 1 1, .slice (some ⟨w.heap.size + 2, 0, none⟩) 1 1, .slice none 0 0], .int .i32 233] W fun e w' => ∃ v, e = .returned v ∧ Runes w' v [101, 769] ∧ Below W.heap.size W w') := fun W hb => by
    refine (one_any (some ⟨w.heap.size + 1, 0, none⟩) 1 _ _ exNorm.rows (by decide) 233 W (HG.out W hb).hg (HR.out W hb) (by decide) hrc).mono ?_
    rintro e w' ⟨v, rfl, ho, hb'⟩
    rw [exNorm_one] at ho
    exact ⟨v, rfl, Runes.own ho, hb'⟩
  have HO2 : Hid (∀ W, Below W4.heap.size W4 W → Calls Tryd.prog 19 #[.agg #[.slice (some ⟨w.heap.size + 1, 0, none⟩) 1 1, .slice (some ⟨w.heap.size + 2, 0, none⟩) 1 1, .slice none 0 0], .int .i32 44033] W fun e w' => ∃ v, e = .returned v ∧ Runes w' v [4352, 4449, 4520] ∧ Below W.heap.size W w') := fun W hb => by
    refine (one_any (some ⟨w.heap.size + 1, 0, none⟩) 1 _ _ exNorm.rows (by decide) 44033 W (HG.out W hb).hg (HR.out W hb) (by decide) hrc).mono ?_
    rintro e w' ⟨v, rfl, ho, hb'⟩
    rw [exNorm_syl] at ho
    exact ⟨v, rfl, Runes.own ho, hb'⟩
  have HS : Hid (∀ W v rs, Runes W v rs → rs.length ≤ 268435456 → Calls Tryd.prog 14 #[v, .slice (some ⟨W.heap.size, 0, none⟩) rs.length rs.length] (W.alloc (.cells (rs.map (Value.int .i32)).toArray 21)) fun e w' => e = .returned (.bool true) ∧ Below W.heap.size W w') := fun W v rs hv hl => by
    refine (same_any v _ rs (W.alloc (.cells (rs.map (Value.int .i32)).toArray 21)) hl (hv.below ((Below.refl _ _).alloc (Nat.le_refl _) _)) (runes_new W rs)).mono ?_
    rintro e w' ⟨rfl, hb⟩
    exact ⟨rfl, ((Below.refl _ _).alloc (Nat.le_refl _) _).trans (hb.mono (by simp))⟩
  have HB04 := Hid.mk' b04
  have Hsz : Hid (w.heap.size ≤ W4.heap.size) := by show _ ≤ _; omega
  have HW4 := Hid.mk' hW4
  clear hg R1 R2 R3 b1 b2 b3 b4 b04 b24 HR HG hrc hW4 e0 e1 e2
  go_enter Tryd.func7, Tryd.ntmps7
  go_wp2_with fail
  rw [HW4.out]
  refine HCk.out.mono ?_
  rintro e w5 ⟨rfl, hb5⟩
  obtain ⟨p0, p1, p2⟩ := HE.out w5 hb5
  go_wp2_with fail
  refine (HO1.out w5 hb5).mono ?_
  rintro e w6 ⟨v6, rfl, r6, hb6⟩
  have hb46 := hb5.trans (hb6.mono hb5.size)
  have HS6 := Hid.mk' (HS.out w6 v6 [101, 769] r6 (by decide))
  obtain ⟨va, vc, rfl, -⟩ := r6
  clear p0 p1 p2
  go_wp2_with fail
  refine HS6.out.mono ?_
  rintro e w7 ⟨rfl, hb7⟩
  have hb47 := hb46.trans (hb7.mono hb46.size)
  obtain ⟨p0, p1, p2⟩ := HE.out w7 hb47
  go_wp2_with fail
  refine (HO2.out w7 hb47).mono ?_
  rintro e w8 ⟨v8, rfl, r8, hb8⟩
  have hb48 := hb47.trans (hb8.mono hb47.size)
  have HS8 := Hid.mk' (HS.out w8 v8 [4352, 4449, 4520] r8 (by decide))
  obtain ⟨vb, vd, rfl, -⟩ := r8
  clear p0 p1 p2
  go_wp2_with fail
  refine HS8.out.mono ?_
  rintro e w9 ⟨rfl, hb9⟩
  have hb49 := hb48.trans (hb9.mono hb48.size)
  go_wp2
  go_ret
  exact ⟨rfl, HB04.out.trans (hb49.mono Hsz.out)⟩
end Go.Proofs.YtojpkkbagcahdaaDoor

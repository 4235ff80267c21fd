/-
  What is proved here: that the laws of layer 9 are awake.
-/
import Derived.Test.YtcklfcoobccgcaaDoorD4
namespace Go.Proofs.YtcklfcoobccgcaaDoor
open Go.RowKit Go.Shelf

def awkT : List Rg := [⟨48, 57, 4⟩, ⟨1488, 1514, 2⟩]
theorem awkT_ok : Ok awkT := by
  refine ⟨by decide, fun i j h1 h2 => ?_, fun i j h1 h2 => ?_⟩
  · have h2' : j < 2 := h2
    obtain ⟨rfl, rfl⟩ : i = 0 ∧ j = 1 := by omega
    decide
  · have h2' : j < 2 := h2
    rcases (by omega : (i = 0 ∧ j = 0) ∨ (i = 0 ∧ j = 1) ∨ (i = 1 ∧ j = 1)) with ⟨rfl, rfl⟩ | ⟨rfl, rfl⟩ | ⟨rfl, rfl⟩ <;> decide
/-- the six cells of that table -/
def Awk (W : World) (B : Nat) : Prop := ∀ i, i < 6 → W.cell? ⟨B, i, none⟩ = (#[.int .i32 48, .int .i32 57, .int .i64 4, .int .i32 1488, .int .i32 1514, .int .i64 2] : Array Value)[i]?
theorem Awk.below {W W' : World} {B : Nat} (h : Awk W B) (hb : Below W.heap.size W W') : Awk W' B := fun i hi => (hb.cell (p := ⟨B, i, none⟩) (lt_of_cell (o := 0) (h 0 (by omega)))).trans (h i hi)
theorem Awk.tab {W : World} {B : Nat} (h : Awk W B) : Tab W (.slice (some ⟨B, 0, none⟩) awkT.length 2) awkT := ⟨some ⟨B, 0, none⟩, 2, rfl, fun j hj => ⟨B, 0, rfl, fun i hi => by
  have hj' : j < 2 := hj
  rw [Nat.zero_add, h (j * 3 + i) (by omega)]
  rcases (by omega : j = 0 ∨ j = 1) with rfl | rfl <;> rcases (by omega : i = 0 ∨ i = 1 ∨ i = 2) with rfl | rfl | rfl <;> rfl⟩⟩
theorem awkBroken_any (B bb : Nat) (x y : Int) (z : Int × Int) (W : World) (hT : Awk W B) (h0 : W.cell? ⟨bb, 0, none⟩ = some (.int .i32 x)) (h1 : W.cell? ⟨bb, 1, none⟩ = some (.int .i32 y)) (hd : Dirs (dirsM awkT [x, y])) (hz : brkM (dirsM awkT [x, y]) = z) :
    Calls Tryd.prog 9 #[.agg #[.slice none 0 0, .slice none 0 0, .slice none 0 0, .slice none 0 0, .slice none 0 0, .slice none 0 0, .slice none 0 0, .slice none 0 0, .slice none 0 0, .slice (some ⟨B, 0, none⟩) 2 2, .slice none 0 0], .slice (some ⟨bb, 0, none⟩) 2 2] W fun e w' => e = .returned (.tuple #[.int .i64 z.1, .int .i64 z.2]) ∧ Below W.heap.size W w' := by
  have := broken_any (fun i => ([none, none, none, none, none, none, none, none, none, some (⟨B, 0, none⟩ : Addr), none] : List (Option Addr)).getD i none) (fun i => ([0, 0, 0, 0, 0, 0, 0, 0, 0, 2, 0] : List Nat).getD i 0) (fun i => ([[], [], [], [], [], [], [], [], [], awkT, []] : List (List Rg)).getD i []) (some ⟨bb, 0, none⟩) 2 [x, y] W ⟨hT.tab, awkT_ok, ⟨some ⟨bb, 0, none⟩, 2, rfl, fun j hj => ⟨bb, 0, rfl, by
    have hj' : j < 2 := hj
    rcases (by omega : j = 0 ∨ j = 1) with rfl | rfl
    · exact h0
    · exact h1⟩⟩, by show 2 ≤ _; omega, hd⟩
  rw [← hz]
  exact this
theorem awk_dirs {a b : Int} (ha : 1 ≤ a ∧ a ≤ 11) (hb : 1 ≤ b ∧ b ≤ 11) : Dirs [a, b] := fun i hi => by
  have hi' : i < 2 := hi
  rcases (by omega : i = 0 ∨ i = 1) with rfl | rfl
  · exact ha
  · exact hb
theorem below_named {B : Nat} {W0 W W' : World} {o : Obj} (h : Below B W0 W) (hB : B ≤ W.heap.size) (e : W.alloc o = W') : Below B W0 W' := by rw [← e]; exact h.alloc hB _
set_option maxRecDepth 20000 in
set_option maxHeartbeats 4000000 in
theorem awake9_any (w : World) :
    Calls Tryd.prog 6 #[] w fun e w' => e = .returned (.bool true) ∧ Below w.heap.size w w' := by
  obtain ⟨W1, hW1⟩ : ∃ W1, w.alloc (.cells #[.int .i32 48, .int .i32 57, .int .i64 4, .int .i32 1488, .int .i32 1514, .int .i64 2] 44) = W1 := ⟨_, rfl⟩
  have hs1 : W1.heap.size = w.heap.size + 1 := by rw [← hW1, World.size_alloc]
  have hb1 : Below w.heap.size w W1 := by rw [← hW1]; exact (Below.refl _ _).alloc (Nat.le_refl _) _
  have ha1 : Awk W1 w.heap.size := fun i hi => by rw [← hW1, World.cell?_alloc_new]
  obtain ⟨W2, hW2⟩ : ∃ W2, W1.alloc (.cells #[.slice none 0 0, .slice none 0 0, .slice none 0 0, .slice none 0 0, .slice none 0 0, .slice none 0 0, .slice none 0 0, .slice none 0 0, .slice none 0 0, .slice (some ⟨w.heap.size, 0, none⟩) 2 2, .slice none 0 0] 24) = W2 := ⟨_, rfl⟩
  have hs2 : W2.heap.size = w.heap.size + 1 + 1 := by rw [← hW2, World.size_alloc, hs1]
  have hb2 : Below W1.heap.size W1 W2 := by rw [← hW2]; exact (Below.refl _ _).alloc (Nat.le_refl _) _
  have hp2 : ∀ i, i < 11 → W2.cell? ⟨w.heap.size + 1, i, none⟩ = (#[.slice none 0 0, .slice none 0 0, .slice none 0 0, .slice none 0 0, .slice none 0 0, .slice none 0 0, .slice none 0 0, .slice none 0 0, .slice none 0 0, .slice (some ⟨w.heap.size, 0, none⟩) 2 2, .slice none 0 0] : Array Value)[i]? := fun i hi => by rw [← hW2, ← hs1, World.cell?_alloc_new]
  have HPB : Hid (∀ W, Below W2.heap.size W2 W → ∀ i, i < 11 → W.cell? ⟨w.heap.size + 1, i, none⟩ = (#[.slice none 0 0, .slice none 0 0, .slice none 0 0, .slice none 0 0, .slice none 0 0, .slice none 0 0, .slice none 0 0, .slice none 0 0, .slice none 0 0, .slice (some ⟨w.heap.size, 0, none⟩) 2 2, .slice none 0 0] : Array Value)[i]?) := fun W hb i hi => (hb.cell (p := ⟨w.heap.size + 1, i, none⟩) (by show w.heap.size + 1 < _; omega)).trans (hp2 i hi)
  have HBW : Hid (∀ W, Below W2.heap.size W2 W → Below w.heap.size w W) := fun W hb => hb1.trans (((hb2.trans (hb.mono hb2.size))).mono hb1.size)
  have HAW : Hid (∀ W, Below W2.heap.size W2 W → Awk W w.heap.size) := fun W hb => (ha1.below hb2).below hb
  obtain ⟨W3, hW3⟩ : ∃ W3, W2.alloc (.cells #[.int .i32 1488, .int .i32 48] 21) = W3 := ⟨_, rfl⟩
  have hb3 : Below W2.heap.size W2 W3 := by rw [← hW3]; exact (Below.refl _ _).alloc (Nat.le_refl _) _
  have HC1 := Hid.mk' (awkBroken_any w.heap.size (w.heap.size + 1 + 1) 1488 48 (0, 0) W3 (HAW.out W3 hb3) (by rw [← hs2, ← hW3, World.cell?_alloc_new]; rfl) (by rw [← hs2, ← hW3, World.cell?_alloc_new]; rfl) (awk_dirs (a := 2) (b := 4) (by decide) (by decide)) (by decide))
  have HC2 : Hid (∀ W W', Below W2.heap.size W2 W → W.alloc (.cells #[.int .i32 48, .int .i32 1488] 21) = W' → _) := fun W W' hb e => awkBroken_any w.heap.size W.heap.size 48 1488 (1, 0) W' (HAW.out W' (by rw [← e]; exact hb.alloc hb.size _)) (by rw [← e, World.cell?_alloc_new]; rfl) (by rw [← e, World.cell?_alloc_new]; rfl) (awk_dirs (a := 4) (b := 2) (by decide) (by decide)) (by decide)
  have HC3 : Hid (∀ W W', Below W2.heap.size W2 W → W.alloc (.cells #[.int .i32 1488, .int .i32 97] 21) = W' → _) := fun W W' hb e => awkBroken_any w.heap.size W.heap.size 1488 97 (2, 1) W' (HAW.out W' (by rw [← e]; exact hb.alloc hb.size _)) (by rw [← e, World.cell?_alloc_new]; rfl) (by rw [← e, World.cell?_alloc_new]; rfl) (awk_dirs (a := 2) (b := 1) (by decide) (by decide)) (by decide)
  have HB3 := Hid.mk' hb3
  clear hb1 ha1 hb2 hp2 HAW hb3 hs1 hs2
  subst hW3
  subst hW2
  subst hW1
  go_enter Tryd.func6, Tryd.ntmps6
  go_wp2_with fail
  refine HC1.out.mono ?_
  rintro e w4 ⟨rfl, hb4⟩
  have hb4' := HB3.out.trans (hb4.mono HB3.out.size)
  have x := HPB.out w4 hb4'
  have x0 : w4.cell? ⟨w.heap.size + 1, 0, none⟩ = some (.slice none 0 0) := x 0 (by omega)
  have x1 : w4.cell? ⟨w.heap.size + 1, 1, none⟩ = some (.slice none 0 0) := x 1 (by omega)
  have x2 : w4.cell? ⟨w.heap.size + 1, 2, none⟩ = some (.slice none 0 0) := x 2 (by omega)
  have x3 : w4.cell? ⟨w.heap.size + 1, 3, none⟩ = some (.slice none 0 0) := x 3 (by omega)
  have x4 : w4.cell? ⟨w.heap.size + 1, 4, none⟩ = some (.slice none 0 0) := x 4 (by omega)
  have x5 : w4.cell? ⟨w.heap.size + 1, 5, none⟩ = some (.slice none 0 0) := x 5 (by omega)
  have x6 : w4.cell? ⟨w.heap.size + 1, 6, none⟩ = some (.slice none 0 0) := x 6 (by omega)
  have x7 : w4.cell? ⟨w.heap.size + 1, 7, none⟩ = some (.slice none 0 0) := x 7 (by omega)
  have x8 : w4.cell? ⟨w.heap.size + 1, 8, none⟩ = some (.slice none 0 0) := x 8 (by omega)
  have x9 : w4.cell? ⟨w.heap.size + 1, 9, none⟩ = some (.slice (some ⟨w.heap.size, 0, none⟩) 2 2) := x 9 (by omega)
  have x10 : w4.cell? ⟨w.heap.size + 1, 10, none⟩ = some (.slice none 0 0) := x 10 (by omega)
  obtain ⟨W5, hW5⟩ : ∃ W5, w4.alloc (.cells #[.int .i32 48, .int .i32 1488] 21) = W5 := ⟨_, rfl⟩
  have HC2' := Hid.mk' (HC2.out w4 W5 hb4' hW5)
  have HB5 := Hid.mk' (below_named hb4' hb4'.size hW5)
  clear HC1 HC2 hb4 x hb4'
  go_wp2_with fail
  refine HC2'.out.mono ?_
  rintro e w6 ⟨rfl, hb6⟩
  have hb6' := HB5.out.trans (hb6.mono HB5.out.size)
  clear HC2' x0 x1 x2 x3 x4 x5 x6 x7 x8 x9 x10 hb6 hW5
  have x := HPB.out w6 hb6'
  have x0 : w6.cell? ⟨w.heap.size + 1, 0, none⟩ = some (.slice none 0 0) := x 0 (by omega)
  have x1 : w6.cell? ⟨w.heap.size + 1, 1, none⟩ = some (.slice none 0 0) := x 1 (by omega)
  have x2 : w6.cell? ⟨w.heap.size + 1, 2, none⟩ = some (.slice none 0 0) := x 2 (by omega)
  have x3 : w6.cell? ⟨w.heap.size + 1, 3, none⟩ = some (.slice none 0 0) := x 3 (by omega)
  have x4 : w6.cell? ⟨w.heap.size + 1, 4, none⟩ = some (.slice none 0 0) := x 4 (by omega)
  have x5 : w6.cell? ⟨w.heap.size + 1, 5, none⟩ = some (.slice none 0 0) := x 5 (by omega)
  have x6 : w6.cell? ⟨w.heap.size + 1, 6, none⟩ = some (.slice none 0 0) := x 6 (by omega)
  have x7 : w6.cell? ⟨w.heap.size + 1, 7, none⟩ = some (.slice none 0 0) := x 7 (by omega)
  have x8 : w6.cell? ⟨w.heap.size + 1, 8, none⟩ = some (.slice none 0 0) := x 8 (by omega)
  have x9 : w6.cell? ⟨w.heap.size + 1, 9, none⟩ = some (.slice (some ⟨w.heap.size, 0, none⟩) 2 2) := x 9 (by omega)
  have x10 : w6.cell? ⟨w.heap.size + 1, 10, none⟩ = some (.slice none 0 0) := x 10 (by omega)
  obtain ⟨W7, hW7⟩ : ∃ W7, w6.alloc (.cells #[.int .i32 1488, .int .i32 97] 21) = W7 := ⟨_, rfl⟩
  have HC3' := Hid.mk' (HC3.out w6 W7 hb6' hW7)
  have HB7 := Hid.mk' (below_named hb6' hb6'.size hW7)
  clear HC3 x hb6'
  go_wp2_with fail
  refine HC3'.out.mono ?_
  rintro e w8 ⟨rfl, hb8⟩
  have HB8 := Hid.mk' (HBW.out w8 (HB7.out.trans (hb8.mono HB7.out.size)))
  clear HC3' x0 x1 x2 x3 x4 x5 x6 x7 x8 x9 x10 hb8 hW7
  go_wp2
  go_ret
  exact ⟨rfl, HB8.out⟩
end Go.Proofs.YtcklfcoobccgcaaDoor

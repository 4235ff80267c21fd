/-
  What is proved here: what seek answers, of rows and of runes.
-/
import Derived.Test.YtlnehhfljjeifaaGreatDoorA1
import Derived.Deep.RegionHeld3
namespace Go.Proofs.YtlnehhfljjeifaaGreatDoor
open Go.RowKit

set_option maxHeartbeats 1000000 in
/-- sort.Search with any function that tells which keys are at r or above it -/
theorem search4 (F B n : Nat) (key : Nat → Int) (r : Int) (w : World) (hF : ∀ args w, (callFunc F args).run Tryz.prog w = .ok (.enter F args) w)
    (hC : ∀ w' i, Below w.heap.size w w' → i < n → Calls Tryz.prog F #[.int .i64 (i : Nat), .pointer (some ⟨B + 2, 0, none⟩), .pointer (some ⟨B, 0, none⟩), .pointer (some ⟨B + 1, 0, none⟩)] w' fun e w'' => e = .returned (.bool (decide (r ≤ key i))) ∧ Below w'.heap.size w' w'')
    (hn : n ≤ 2147483648) (hm : ∀ i j, i ≤ j → j < n → key i ≤ key j) :
    Calls Tryz.prog 76 #[.int .i64 n, .func (.func F) #[] #[.pointer (some ⟨B + 2, 0, none⟩), .pointer (some ⟨B, 0, none⟩), .pointer (some ⟨B + 1, 0, none⟩)]] w fun e w' => (∃ i : Nat, e = .returned (.int .i64 i) ∧ i ≤ n ∧ (∀ k, k < i → key k < r) ∧ (∀ k, i ≤ k → k < n → r ≤ key k)) ∧ Below w.heap.size w w' := by
  have HC := Hid.mk' hC
  have HM := Hid.mk' hm
  clear hC hm
  go_enter Tryz.func76, Tryz.ntmps76
  go_wp2
  go_loopw [5, 6] (fun x y wr => ∃ i j : Nat, x = .int .i64 i ∧ y = .int .i64 j ∧ i ≤ j ∧ j ≤ n ∧ Hid (∀ k, k < i → key k < r) ∧ Hid (∀ k, j ≤ k → k < n → r ≤ key k) ∧ Below w.heap.size w wr) (fun x y _ => (intOf y).toNat - (intOf x).toNat)
  case atStart => exact ⟨0, n, rfl, rfl, Nat.zero_le _, Nat.le_refl _, fun k hk => by omega, fun k h1 h2 => by omega, Below.refl _ _⟩
  case round =>
    obtain ⟨i, j, rfl, rfl, hij, hj, h1, h2, hb⟩ := hrel
    by_cases hlt : i < j
    · obtain ⟨h, hh⟩ : ∃ h : Nat, ((i : Int) + j) / 2 = h := ⟨(i + j) / 2, by omega⟩
      have hh1 : i ≤ h := by omega
      have hh2 : h < j := by omega
      have HCh := Hid.mk' (HC.out wr h hb (by omega))
      cases hp : decide (r ≤ key h)
      · rw [hp] at HCh
        have hq : key h < r := by simpa using hp
        have h1' : Hid (∀ k, k < h + 1 → key k < r) := fun k hk => Int.lt_of_le_of_lt (HM.out k h (by omega) (by omega)) hq
        clear hp hq
        go_wp2_with fail
        refine HCh.out.mono ?_
        rintro e w1 ⟨rfl, hb1⟩
        go_wp2
        go_roundw
        case rel => exact ⟨h + 1, j, by go_num, rfl, by omega, hj, h1', h2, hb.trans (hb1.mono hb.size)⟩
        case measure => simp [intOf]; omega
      · rw [hp] at HCh
        have hq : r ≤ key h := by simpa using hp
        have h2' : Hid (∀ k, h ≤ k → k < n → r ≤ key k) := fun k hk hkl => Int.le_trans hq (HM.out h k hk hkl)
        clear hp hq
        go_wp2_with fail
        refine HCh.out.mono ?_
        rintro e w1 ⟨rfl, hb1⟩
        go_wp2
        go_roundw
        case rel => exact ⟨i, h, rfl, rfl, hh1, by omega, h1, h2', hb.trans (hb1.mono hb.size)⟩
        case measure => simp [intOf]; omega
    · go_wp2
      go_ret
      exact ⟨⟨i, rfl, by omega, h1.out, fun k hk => h2.out k (by omega)⟩, hb⟩
/-- x is the number of that key which is r; -1: none is -/
def Sought (n : Nat) (key : Nat → Int) (r x : Int) : Prop := (∃ i : Nat, x = i ∧ i < n ∧ key i = r) ∨ (x = -1 ∧ ∀ i, i < n → key i ≠ r)
theorem sought_miss {n i : Nat} {key : Nat → Int} {r : Int} (hm : ∀ i j, i ≤ j → j < n → key i ≤ key j) (h1 : ∀ k, k < i → key k < r) (hi : i < n → r < key i) : ∀ k, k < n → key k ≠ r := by
  intro k hk e
  rcases Nat.lt_or_ge k i with g | g
  · have := h1 k g; omega
  · have := hm i k g hk
    have := hi (by omega)
    omega
theorem three_boxes (w : World) (x y z : Value) (t1 t2 t3 : TypeId) :
    (((w.alloc (.cells #[x] t1)).alloc (.cells #[y] t2)).alloc (.cells #[z] t3)).cell? ⟨w.heap.size, 0, none⟩ = some x ∧ (((w.alloc (.cells #[x] t1)).alloc (.cells #[y] t2)).alloc (.cells #[z] t3)).cell? ⟨w.heap.size + 1, 0, none⟩ = some y ∧ (((w.alloc (.cells #[x] t1)).alloc (.cells #[y] t2)).alloc (.cells #[z] t3)).cell? ⟨w.heap.size + 2, 0, none⟩ = some z := by
  refine ⟨?_, ?_, ?_⟩
  · rw [World.cell?_alloc_lt _ _ ⟨w.heap.size, 0, none⟩ (by rw [World.size_alloc, World.size_alloc]; show w.heap.size < _; omega), World.cell?_alloc_lt _ _ ⟨w.heap.size, 0, none⟩ (by rw [World.size_alloc]; show w.heap.size < _; omega), World.cell?_alloc_new]
    rfl
  · rw [World.cell?_alloc_lt _ _ ⟨w.heap.size + 1, 0, none⟩ (by rw [World.size_alloc, World.size_alloc]; show w.heap.size + 1 < _; omega)]
    have e := World.cell?_alloc_new (w.alloc (.cells #[x] t1)) #[y] t2 0
    rw [World.size_alloc] at e
    rw [e]; rfl
  · have e := World.cell?_alloc_new ((w.alloc (.cells #[x] t1)).alloc (.cells #[y] t2)) #[z] t3 0
    rw [World.size_alloc, World.size_alloc] at e
    rw [e]; rfl
set_option maxHeartbeats 1000000 in
theorem seekRow1_any (l : List Rw) (r : Int) (i B : Nat) (a : Option Addr) (cap : Nat) (w : World) (c0 : w.cell? ⟨B, 0, none⟩ = some (.slice a l.length cap)) (c1 : w.cell? ⟨B + 1, 0, none⟩ = some (.int .i32 r)) (c2 : w.cell? ⟨B + 2, 0, none⟩ = some (.func (.func 144) #[] #[])) (hT : Rows4 w (.slice a l.length cap) l) (hi : i < l.length) (_hl : l.length ≤ 2147483648) :
    Calls Tryz.prog 168 #[.int .i64 (i : Nat), .pointer (some ⟨B + 2, 0, none⟩), .pointer (some ⟨B, 0, none⟩), .pointer (some ⟨B + 1, 0, none⟩)] w fun e w' => e = .returned (.bool (decide (r ≤ (rw_ l i).fr))) ∧ Below w.heap.size w w' := by
  obtain ⟨a', cap', e, hT⟩ := hT
  obtain ⟨rfl, rfl⟩ : a = a' ∧ cap = cap' := by simpa using e
  obtain ⟨b, off, tv, rfl, d0, d1, hR⟩ := hT i hi
  obtain ⟨ta, tcap, rfl, -⟩ := hR
  clear hT e
  generalize rw_ l i = q at *
  have HF := Hid.mk' (fun W => fromOf_any q.fr (.slice ta q.to.length tcap) W)
  have hF : ∀ args w, (callFunc 144 args).run Tryz.prog w = .ok (.enter 144 args) w := enters_of Tryz.func144 (by kernel_rfl) rfl
  go_enter Tryz.func168, Tryz.ntmps168
  go_wp2
  go_region_held3 (fun w' => w'.cell? ⟨B, 0, none⟩ = some (.slice (some ⟨b, off, none⟩) l.length cap) ∧ w'.cell? ⟨B + 1, 0, none⟩ = some (.int .i32 r) ∧ w'.cell? ⟨B + 2, 0, none⟩ = some (.func (.func 144) #[] #[]) ∧ w'.cell? ⟨b, off + i * 2, none⟩ = some (.int .i32 q.fr) ∧ w'.cell? ⟨b, off + i * 2 + 1, none⟩ = some (.slice ta q.to.length tcap)) (first | exact ⟨c0, c1, c2, d0, d1⟩ | exact ⟨k0, k1, k2, k3, k4⟩ | go_keep) ((go_at_fn 144; refine (HF.out _).mono ?_; rintro e w2 ⟨rfl, rfl⟩))
  go_wp2
  go_ret
  exact ⟨rfl, ((Below.refl _ _).alloc (Nat.le_refl _) _).drew⟩
set_option maxHeartbeats 1000000 in
theorem seekRow_any (v : Value) (l : List Rw) (r : Int) (w : World) (hT : Rows4 w v l) (hl : l.length ≤ 2147483648) (hm : ∀ i j, i ≤ j → j < l.length → (rw_ l i).fr ≤ (rw_ l j).fr) :
    Calls Tryz.prog 143 #[v, .int .i32 r, .func (.func 144) #[] #[]] w fun e w' => (∃ x, e = .returned (.int .i64 x) ∧ Sought l.length (fun i => (rw_ l i).fr) r x) ∧ Below w.heap.size w w' := by
  obtain ⟨a, cap, rfl, hT'⟩ := id hT
  have HT := Hid.mk' hT'
  have HM := Hid.mk' hm
  obtain ⟨W, hW⟩ : ∃ W, ((w.alloc (.cells #[.slice a l.length cap] 36)).alloc (.cells #[.int .i32 r] 21)).alloc (.cells #[.func (.func 144) #[] #[]] 196) = W := ⟨_, rfl⟩
  have hb0 : Below w.heap.size w W := by rw [← hW]; exact (((Below.refl _ w).alloc (Nat.le_refl _) _).alloc (by simp) _).alloc (by simp; omega) _
  have e0 : W.cell? ⟨w.heap.size, 0, none⟩ = some (.slice a l.length cap) := by rw [← hW]; exact (three_boxes _ _ _ _ _ _ _).1
  have e1 : W.cell? ⟨w.heap.size + 1, 0, none⟩ = some (.int .i32 r) := by rw [← hW]; exact (three_boxes _ _ _ _ _ _ _).2.1
  have e2 : W.cell? ⟨w.heap.size + 2, 0, none⟩ = some (.func (.func 144) #[] #[]) := by rw [← hW]; exact (three_boxes _ _ _ _ _ _ _).2.2
  have HS := Hid.mk' (search4 168 w.heap.size l.length (fun i => (rw_ l i).fr) r W (enters_of Tryz.func168 (by kernel_rfl) rfl)
    (fun w' i hb hi => seekRow1_any l r i w.heap.size a cap w' ((hb.cell (lt_of_cell e0)).trans e0) ((hb.cell (lt_of_cell e1)).trans e1) ((hb.cell (lt_of_cell e2)).trans e2) (hT.below (hb0.trans (hb.mono hb0.size))) hi hl) hl hm)
  have hF : ∀ args w, (callFunc 144 args).run Tryz.prog w = .ok (.enter 144 args) w := enters_of Tryz.func144 (by kernel_rfl) rfl
  have HB := Hid.mk' hb0
  have HE : Hid (∀ w1, Below W.heap.size W w1 → w1.cell? ⟨w.heap.size, 0, none⟩ = some (.slice a l.length cap) ∧ w1.cell? ⟨w.heap.size + 1, 0, none⟩ = some (.int .i32 r) ∧ w1.cell? ⟨w.heap.size + 2, 0, none⟩ = some (.func (.func 144) #[] #[])) := fun w1 hb => ⟨(hb.cell (lt_of_cell e0)).trans e0, (hb.cell (lt_of_cell e1)).trans e1, (hb.cell (lt_of_cell e2)).trans e2⟩
  clear hT hT' hm e0 e1 e2 hb0
  subst hW
  go_enter Tryz.func143, Tryz.ntmps143
  go_wp2_with fail
  refine HS.out.mono ?_
  rintro e w1 ⟨⟨i, rfl, hi, h1, h2⟩, hb⟩
  have H1 := Hid.mk' h1
  have H2 := Hid.mk' h2
  have hbw := HB.out.trans (hb.mono HB.out.size)
  obtain ⟨c0, c1, c2⟩ := HE.out w1 hb
  clear h1 h2 hb HS HE HB
  rcases Nat.lt_or_ge i l.length with hlt | hge
  · have hne : ((i : Int) == (l.length : Int)) = false := by simp; omega
    obtain ⟨b, off, tv, rfl, d0', d1', hR⟩ := HT.out i hlt
    obtain ⟨ta, tcap, rfl, -⟩ := hR
    have d0 := (hbw.cell (p := ⟨b, off + i * 2, none⟩) (lt_of_cell d0')).trans d0'
    have d1 := (hbw.cell (p := ⟨b, off + i * 2 + 1, none⟩) (lt_of_cell d1')).trans d1'
    clear d0' d1'
    have hfr : Hid (r ≤ (rw_ l i).fr) := H2.out i (Nat.le_refl _) hlt
    have hS : Hid (∀ x : Int, x = (if (rw_ l i).fr = r then (i : Int) else -1) → Sought l.length (fun i => (rw_ l i).fr) r x) := fun x hx => by
      by_cases h : (rw_ l i).fr = r
      · rw [if_pos h] at hx; exact .inl ⟨i, hx, hlt, h⟩
      · rw [if_neg h] at hx; exact .inr ⟨hx, sought_miss HM.out H1.out fun _ => by have := hfr.out; show r < (rw_ l i).fr; omega⟩
    have HF := Hid.mk' (fun W => fromOf_any (rw_ l i).fr (.slice ta (rw_ l i).to.length tcap) W)
    clear H1 H2
    generalize rw_ l i = q at *
    by_cases hq : q.fr = r
    · rw [if_pos hq] at hS
      have hqb : (q.fr != r) = false := by simp [hq]
      clear hfr hq
      go_wp2
      go_region_held3 (fun w' => w'.cell? ⟨w.heap.size, 0, none⟩ = some (.slice (some ⟨b, off, none⟩) l.length cap) ∧ w'.cell? ⟨w.heap.size + 1, 0, none⟩ = some (.int .i32 r) ∧ w'.cell? ⟨w.heap.size + 2, 0, none⟩ = some (.func (.func 144) #[] #[]) ∧ w'.cell? ⟨b, off + i * 2, none⟩ = some (.int .i32 q.fr) ∧ w'.cell? ⟨b, off + i * 2 + 1, none⟩ = some (.slice ta q.to.length tcap)) (first | exact ⟨c0, c1, c2, d0, d1⟩ | go_keep) ((go_at_fn 144; refine (HF.out _).mono ?_; rintro e w2 ⟨rfl, rfl⟩))
      go_wp2
      go_ret
      exact ⟨⟨_, rfl, hS.out _ rfl⟩, (hbw.alloc hbw.size _).drew⟩
    · rw [if_neg hq] at hS
      have hqb : (q.fr != r) = true := by simp [hq]
      clear hfr hq
      go_wp2
      go_region_held3 (fun w' => w'.cell? ⟨w.heap.size, 0, none⟩ = some (.slice (some ⟨b, off, none⟩) l.length cap) ∧ w'.cell? ⟨w.heap.size + 1, 0, none⟩ = some (.int .i32 r) ∧ w'.cell? ⟨w.heap.size + 2, 0, none⟩ = some (.func (.func 144) #[] #[]) ∧ w'.cell? ⟨b, off + i * 2, none⟩ = some (.int .i32 q.fr) ∧ w'.cell? ⟨b, off + i * 2 + 1, none⟩ = some (.slice ta q.to.length tcap)) (first | exact ⟨c0, c1, c2, d0, d1⟩ | go_keep) ((go_at_fn 144; refine (HF.out _).mono ?_; rintro e w2 ⟨rfl, rfl⟩))
      go_wp2
      go_ret
      exact ⟨⟨_, rfl, hS.out _ rfl⟩, (hbw.alloc hbw.size _).drew⟩
  · obtain rfl : i = l.length := by omega
    have hS : Hid (Sought l.length (fun i => (rw_ l i).fr) r (-1)) := .inr ⟨rfl, fun k hk => by have : (rw_ l k).fr < r := H1.out k hk; show (rw_ l k).fr ≠ r; omega⟩
    clear H1 H2 HM
    have heq : ((l.length : Int) == (l.length : Int)) = true := by simp
    go_wp2
    go_region
    go_wp2
    go_ret
    exact ⟨⟨_, rfl, hS.out⟩, hbw.drew⟩
set_option maxHeartbeats 1000000 in
theorem seekRune1_any (l : List Int) (r : Int) (i B : Nat) (a : Option Addr) (cap : Nat) (w : World) (c0 : w.cell? ⟨B, 0, none⟩ = some (.slice a l.length cap)) (c1 : w.cell? ⟨B + 1, 0, none⟩ = some (.int .i32 r)) (c2 : w.cell? ⟨B + 2, 0, none⟩ = some (.func (.func 107) #[] #[])) (hT : Runes w (.slice a l.length cap) l) (hi : i < l.length) (_hl : l.length ≤ 2147483648) :
    Calls Tryz.prog 145 #[.int .i64 (i : Nat), .pointer (some ⟨B + 2, 0, none⟩), .pointer (some ⟨B, 0, none⟩), .pointer (some ⟨B + 1, 0, none⟩)] w fun e w' => e = .returned (.bool (decide (r ≤ l.getD i 0))) ∧ Below w.heap.size w w' := by
  obtain ⟨a', cap', e, hT⟩ := hT
  obtain ⟨rfl, rfl⟩ : a = a' ∧ cap = cap' := by simpa using e
  obtain ⟨b, off, rfl, d0⟩ := hT i hi
  clear hT e
  generalize l.getD i 0 = q at *
  have HF := Hid.mk' (fun W => itself_any q W)
  have hF : ∀ args w, (callFunc 107 args).run Tryz.prog w = .ok (.enter 107 args) w := enters_of Tryz.func107 (by kernel_rfl) rfl
  go_enter Tryz.func145, Tryz.ntmps145
  go_wp2
  go_region_held3 (fun w' => w'.cell? ⟨B, 0, none⟩ = some (.slice (some ⟨b, off, none⟩) l.length cap) ∧ w'.cell? ⟨B + 1, 0, none⟩ = some (.int .i32 r) ∧ w'.cell? ⟨B + 2, 0, none⟩ = some (.func (.func 107) #[] #[]) ∧ w'.cell? ⟨b, off + i, none⟩ = some (.int .i32 q)) (first | exact ⟨c0, c1, c2, d0⟩ | go_keep) ((go_at_fn 107; refine (HF.out _).mono ?_; rintro e w2 ⟨rfl, rfl⟩))
  go_wp2
  go_ret
  exact ⟨rfl, (Below.refl _ _).drew⟩
set_option maxHeartbeats 1000000 in
theorem seekRune_any (v : Value) (l : List Int) (r : Int) (w : World) (hT : Runes w v l) (hl : l.length ≤ 2147483648) (hm : ∀ i j, i ≤ j → j < l.length → l.getD i 0 ≤ l.getD j 0) :
    Calls Tryz.prog 106 #[v, .int .i32 r, .func (.func 107) #[] #[]] w fun e w' => (∃ x, e = .returned (.int .i64 x) ∧ Sought l.length (fun i => l.getD i 0) r x) ∧ Below w.heap.size w w' := by
  obtain ⟨a, cap, rfl, hT'⟩ := id hT
  have HT := Hid.mk' hT'
  have HM := Hid.mk' hm
  obtain ⟨W, hW⟩ : ∃ W, ((w.alloc (.cells #[.slice a l.length cap] 37)).alloc (.cells #[.int .i32 r] 21)).alloc (.cells #[.func (.func 107) #[] #[]] 135) = W := ⟨_, rfl⟩
  have hb0 : Below w.heap.size w W := by rw [← hW]; exact (((Below.refl _ w).alloc (Nat.le_refl _) _).alloc (by simp) _).alloc (by simp; omega) _
  have e0 : W.cell? ⟨w.heap.size, 0, none⟩ = some (.slice a l.length cap) := by rw [← hW]; exact (three_boxes _ _ _ _ _ _ _).1
  have e1 : W.cell? ⟨w.heap.size + 1, 0, none⟩ = some (.int .i32 r) := by rw [← hW]; exact (three_boxes _ _ _ _ _ _ _).2.1
  have e2 : W.cell? ⟨w.heap.size + 2, 0, none⟩ = some (.func (.func 107) #[] #[]) := by rw [← hW]; exact (three_boxes _ _ _ _ _ _ _).2.2
  have HS := Hid.mk' (search4 145 w.heap.size l.length (fun i => l.getD i 0) r W (enters_of Tryz.func145 (by kernel_rfl) rfl)
    (fun w' i hb hi => seekRune1_any l r i w.heap.size a cap w' ((hb.cell (lt_of_cell e0)).trans e0) ((hb.cell (lt_of_cell e1)).trans e1) ((hb.cell (lt_of_cell e2)).trans e2) (hT.below (hb0.trans (hb.mono hb0.size))) hi hl) hl hm)
  have hF : ∀ args w, (callFunc 107 args).run Tryz.prog w = .ok (.enter 107 args) w := enters_of Tryz.func107 (by kernel_rfl) rfl
  have HB := Hid.mk' hb0
  have HE : Hid (∀ w1, Below W.heap.size W w1 → w1.cell? ⟨w.heap.size, 0, none⟩ = some (.slice a l.length cap) ∧ w1.cell? ⟨w.heap.size + 1, 0, none⟩ = some (.int .i32 r) ∧ w1.cell? ⟨w.heap.size + 2, 0, none⟩ = some (.func (.func 107) #[] #[])) := fun w1 hb => ⟨(hb.cell (lt_of_cell e0)).trans e0, (hb.cell (lt_of_cell e1)).trans e1, (hb.cell (lt_of_cell e2)).trans e2⟩
  clear hT hT' hm e0 e1 e2 hb0
  subst hW
  go_enter Tryz.func106, Tryz.ntmps106
  go_wp2_with fail
  refine HS.out.mono ?_
  rintro e w1 ⟨⟨i, rfl, hi, h1, h2⟩, hb⟩
  have H1 := Hid.mk' h1
  have H2 := Hid.mk' h2
  have hbw := HB.out.trans (hb.mono HB.out.size)
  obtain ⟨c0, c1, c2⟩ := HE.out w1 hb
  clear h1 h2 hb HS HE HB
  rcases Nat.lt_or_ge i l.length with hlt | hge
  · have hne : ((i : Int) == (l.length : Int)) = false := by simp; omega
    obtain ⟨b, off, rfl, d0'⟩ := HT.out i hlt
    have d0 := (hbw.cell (p := ⟨b, off + i, none⟩) (lt_of_cell d0')).trans d0'
    clear d0'
    have hfr : Hid (r ≤ l.getD i 0) := H2.out i (Nat.le_refl _) hlt
    have hS : Hid (∀ x : Int, x = (if l.getD i 0 = r then (i : Int) else -1) → Sought l.length (fun i => l.getD i 0) r x) := fun x hx => by
      by_cases h : l.getD i 0 = r
      · rw [if_pos h] at hx; exact .inl ⟨i, hx, hlt, h⟩
      · rw [if_neg h] at hx; exact .inr ⟨hx, sought_miss HM.out H1.out fun _ => by have := hfr.out; show r < l.getD i 0; omega⟩
    have HF := Hid.mk' (fun W => itself_any (l.getD i 0) W)
    clear H1 H2
    generalize l.getD i 0 = q at *
    by_cases hq : q = r
    · rw [if_pos hq] at hS
      have hqb : (q != r) = false := by simp [hq]
      clear hfr hq
      go_wp2
      go_region_held3 (fun w' => w'.cell? ⟨w.heap.size, 0, none⟩ = some (.slice (some ⟨b, off, none⟩) l.length cap) ∧ w'.cell? ⟨w.heap.size + 1, 0, none⟩ = some (.int .i32 r) ∧ w'.cell? ⟨w.heap.size + 2, 0, none⟩ = some (.func (.func 107) #[] #[]) ∧ w'.cell? ⟨b, off + i, none⟩ = some (.int .i32 q)) (first | exact ⟨c0, c1, c2, d0⟩ | go_keep) ((go_at_fn 107; refine (HF.out _).mono ?_; rintro e w2 ⟨rfl, rfl⟩))
      go_wp2
      go_ret
      exact ⟨⟨_, rfl, hS.out _ rfl⟩, hbw.drew⟩
    · rw [if_neg hq] at hS
      have hqb : (q != r) = true := by simp [hq]
      clear hfr hq
      go_wp2
      go_region_held3 (fun w' => w'.cell? ⟨w.heap.size, 0, none⟩ = some (.slice (some ⟨b, off, none⟩) l.length cap) ∧ w'.cell? ⟨w.heap.size + 1, 0, none⟩ = some (.int .i32 r) ∧ w'.cell? ⟨w.heap.size + 2, 0, none⟩ = some (.func (.func 107) #[] #[]) ∧ w'.cell? ⟨b, off + i, none⟩ = some (.int .i32 q)) (first | exact ⟨c0, c1, c2, d0⟩ | go_keep) ((go_at_fn 107; refine (HF.out _).mono ?_; rintro e w2 ⟨rfl, rfl⟩))
      go_wp2
      go_ret
      exact ⟨⟨_, rfl, hS.out _ rfl⟩, hbw.drew⟩
  · obtain rfl : i = l.length := by omega
    have hS : Hid (Sought l.length (fun i => l.getD i 0) r (-1)) := .inr ⟨rfl, fun k hk => by have : l.getD k 0 < r := H1.out k hk; show l.getD k 0 ≠ r; omega⟩
    clear H1 H2 HM
    have heq : ((l.length : Int) == (l.length : Int)) = true := by simp
    go_wp2
    go_region
    go_wp2
    go_ret
    exact ⟨⟨_, rfl, hS.out⟩, hbw.drew⟩
end Go.Proofs.YtlnehhfljjeifaaGreatDoor

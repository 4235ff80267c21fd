/-
  What is proved here: what the reference's Tables and Check, and the law's Great, of layer 7 answer.
-/
import Derived.Test.YtcklfcoobccgcaaDoorL1
import Derived.Test.YtcklfcoobccgcaaDoorR5
namespace Go.Proofs.YtcklfcoobccgcaaDoor
open Go.RowKit Go.Shelf

/-- a block of eleven slices, laid out of one value -/
theorem elev_box (w : World) (a : Nat → Option Addr) (c : Nat → Nat) (t : Nat → List Rg) : ∃ W0, w.alloc (.cells #[.slice (a 0) (t 0).length (c 0), .slice (a 1) (t 1).length (c 1), .slice (a 2) (t 2).length (c 2), .slice (a 3) (t 3).length (c 3), .slice (a 4) (t 4).length (c 4), .slice (a 5) (t 5).length (c 5), .slice (a 6) (t 6).length (c 6), .slice (a 7) (t 7).length (c 7), .slice (a 8) (t 8).length (c 8), .slice (a 9) (t 9).length (c 9), .slice (a 10) (t 10).length (c 10)] 45) = W0 ∧ W0.heap.size = w.heap.size + 1 ∧ Below w.heap.size w W0 ∧ PB W0 w.heap.size a c t :=
  ⟨_, rfl, by rw [World.size_alloc], (Below.refl _ w).alloc (Nat.le_refl _) _, fun i hi => by
    rcases (by omega : i = 0 ∨ i = 1 ∨ i = 2 ∨ i = 3 ∨ i = 4 ∨ i = 5 ∨ i = 6 ∨ i = 7 ∨ i = 8 ∨ i = 9 ∨ i = 10) with rfl | rfl | rfl | rfl | rfl | rfl | rfl | rfl | rfl | rfl | rfl <;> rw [World.cell?_alloc_new] <;> rfl⟩
set_option maxRecDepth 20000 in
set_option maxHeartbeats 2000000 in
theorem tables_any (a : Nat → Option Addr) (c : Nat → Nat) (t : Nat → List Rg) (w : World) :
    Calls Tryd.prog 21 #[PV a c t] w fun e w' => e = .returned (PV a c t) ∧ Below w.heap.size w w' := by
  unfold PV
  obtain ⟨W0, hW0, hsz0, hb0, hp⟩ := prop_box w a c t
  have e0 := hp 0 (by omega)
  have e1 := hp 1 (by omega)
  have e2 := hp 2 (by omega)
  have e3 := hp 3 (by omega)
  have e4 := hp 4 (by omega)
  have e5 := hp 5 (by omega)
  have e6 := hp 6 (by omega)
  have e7 := hp 7 (by omega)
  have e8 := hp 8 (by omega)
  have e9 := hp 9 (by omega)
  have e10 := hp 10 (by omega)
  obtain ⟨W2, hW2, hsz2, hb2, hp2⟩ := elev_box W0 a c t
  rw [hsz0] at hp2
  have f0 : W2.cell? ⟨w.heap.size + 1, 0, none⟩ = some (.slice (a 0) (t 0).length (c 0)) := hp2 0 (by omega)
  have f1 : W2.cell? ⟨w.heap.size + 1, 1, none⟩ = some (.slice (a 1) (t 1).length (c 1)) := hp2 1 (by omega)
  have f2 : W2.cell? ⟨w.heap.size + 1, 2, none⟩ = some (.slice (a 2) (t 2).length (c 2)) := hp2 2 (by omega)
  have f3 : W2.cell? ⟨w.heap.size + 1, 3, none⟩ = some (.slice (a 3) (t 3).length (c 3)) := hp2 3 (by omega)
  have f4 : W2.cell? ⟨w.heap.size + 1, 4, none⟩ = some (.slice (a 4) (t 4).length (c 4)) := hp2 4 (by omega)
  have f5 : W2.cell? ⟨w.heap.size + 1, 5, none⟩ = some (.slice (a 5) (t 5).length (c 5)) := hp2 5 (by omega)
  have f6 : W2.cell? ⟨w.heap.size + 1, 6, none⟩ = some (.slice (a 6) (t 6).length (c 6)) := hp2 6 (by omega)
  have f7 : W2.cell? ⟨w.heap.size + 1, 7, none⟩ = some (.slice (a 7) (t 7).length (c 7)) := hp2 7 (by omega)
  have f8 : W2.cell? ⟨w.heap.size + 1, 8, none⟩ = some (.slice (a 8) (t 8).length (c 8)) := hp2 8 (by omega)
  have f9 : W2.cell? ⟨w.heap.size + 1, 9, none⟩ = some (.slice (a 9) (t 9).length (c 9)) := hp2 9 (by omega)
  have f10 : W2.cell? ⟨w.heap.size + 1, 10, none⟩ = some (.slice (a 10) (t 10).length (c 10)) := hp2 10 (by omega)
  have HB := Hid.mk' (hb0.trans (hb2.mono hb0.size))
  clear hp hb0 hp2 hb2
  go_enter Tryd.func21, Tryd.ntmps21
  go_wp2
  exact bodyPost_ret (v := .agg #[.slice (a 0) (t 0).length (c 0), .slice (a 1) (t 1).length (c 1), .slice (a 2) (t 2).length (c 2), .slice (a 3) (t 3).length (c 3), .slice (a 4) (t 4).length (c 4), .slice (a 5) (t 5).length (c 5), .slice (a 6) (t 6).length (c 6), .slice (a 7) (t 7).length (c 7), .slice (a 8) (t 8).length (c 8), .slice (a 9) (t 9).length (c 9), .slice (a 10) (t 10).length (c 10)]) (by simp [results, Tryd.results21, go_sem, f0, f1, f2, f3, f4, f5, f6, f7, f8, f9, f10]) rfl ⟨rfl, HB.out⟩
def great7 (t : Nat → List Rg) : Bool := (List.range 11).any fun i => decide (40 < (t i).length)
theorem great7_at {t : Nat → List Rg} {k : Nat} (hk : k < 11) (h : 40 < (t k).length) : great7 t = true := by
  unfold great7
  rw [List.any_eq_true]
  exact ⟨k, by simpa using hk, by simpa using h⟩
theorem great7_none {t : Nat → List Rg} (h : ∀ i, i < 11 → (t i).length ≤ 40) : great7 t = false := by
  unfold great7
  rw [List.any_eq_false]
  intro x hx
  have := h x (by simpa using hx)
  simpa using this
theorem great7_false {t : Nat → List Rg} (h : great7 t = false) : ∀ i, i < 11 → (t i).length ≤ 40 := by
  unfold great7 at h
  rw [List.any_eq_false] at h
  intro i hi
  have := h i (by simpa using hi)
  simpa using this
set_option maxRecDepth 20000 in
set_option maxHeartbeats 4000000 in
theorem greatP_any (a : Nat → Option Addr) (c : Nat → Nat) (t : Nat → List Rg) (w : World) :
    Calls Tryd.prog 7 #[PV a c t] w fun e w' => e = .returned (.bool (great7 t)) ∧ Below w.heap.size w w' := by
  obtain ⟨W0, hW0, hsz0, hb0, hp⟩ := prop_box w a c t
  have e0 := hp 0 (by omega)
  have e1 := hp 1 (by omega)
  have e2 := hp 2 (by omega)
  have e3 := hp 3 (by omega)
  have e4 := hp 4 (by omega)
  have e5 := hp 5 (by omega)
  have e6 := hp 6 (by omega)
  have e7 := hp 7 (by omega)
  have e8 := hp 8 (by omega)
  have e9 := hp 9 (by omega)
  have e10 := hp 10 (by omega)
  have HTB := Hid.mk' (tables_any a c t W0)
  unfold PV at HTB ⊢
  have HB := Hid.mk' hb0
  have HG1 : Hid (∀ k, k < 11 → 40 < (t k).length → great7 t = true) := fun k hk h => great7_at hk h
  have HG2 : Hid ((∀ i, i < 11 → (t i).length ≤ 40) → great7 t = false) := great7_none
  generalize great7 t = res at *
  clear hp hb0
  go_enter Tryd.func7, Tryd.ntmps7
  go_wp2_with fail
  refine HTB.out.mono ?_
  rintro e w1 ⟨rfl, hb1⟩
  obtain ⟨W2, hW2, hsz2, hb2, hp2⟩ := elev_box w1 a c t
  have HBW := Hid.mk' (HB.out.trans ((hb1.mono HB.out.size).trans (hb2.mono (Nat.le_trans HB.out.size hb1.size))))
  have HP := Hid.mk' hp2
  clear e0 e1 e2 e3 e4 e5 e6 e7 e8 e9 e10 hp2 hb2 hb1
  go_wp2
  go_loop [4] (fun y => ∃ k : Nat, y = .int .i64 k ∧ k ≤ 11 ∧ Hid (∀ i, i < k → (t i).length ≤ 40)) (fun y => 11 - (intOf y).toNat)
  case atStart => exact ⟨0, rfl, by omega, fun i hi => by omega⟩
  case round =>
    obtain ⟨k, rfl, hk, hok⟩ := hrel
    by_cases hlt : k < 11
    · have q := HP.out k hlt
      have HG := Hid.mk' (HG1.out k hlt)
      have HO : Hid ((t k).length ≤ 40 → ∀ i, i < k + 1 → (t i).length ≤ 40) := fun hd i hi => by
        rcases Nat.lt_or_ge i k with g | g
        · exact hok.out i g
        · obtain rfl : i = k := by omega
          exact hd
      generalize (t k).length = n at *
      generalize a k = ak at *
      generalize c k = ck at *
      have hklz : (k : Int) < 11 := by omega
      by_cases h40 : 40 < n
      · have hres := Hid.mk' (HG.out h40)
        have hd : decide ((40 : Int) < (n : Int)) = true := decide_eq_true (by omega)
        clear h40
        go_wp2
        go_ret
        exact ⟨ret_bool hres.out.symm, HBW.out⟩
      · have hok' := Hid.mk' (HO.out (by omega))
        have hd : decide ((40 : Int) < (n : Int)) = false := decide_eq_false (by omega)
        clear h40
        go_wp2
        go_round
        case rel => exact ⟨k + 1, by go_num, by omega, hok'⟩
        case measure => simp [intOf]; omega
    · obtain rfl : k = 11 := by omega
      have hres := Hid.mk' (HG2.out hok.out)
      go_wp2
      go_ret
      exact ⟨ret_bool hres.out.symm, HBW.out⟩
end Go.Proofs.YtcklfcoobccgcaaDoor

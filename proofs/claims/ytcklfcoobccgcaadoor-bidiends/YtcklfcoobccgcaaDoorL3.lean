/-
  What is proved here: what classes' Check answers, of any properties.
-/
import Derived.Test.YtcklfcoobccgcaaDoorL2
namespace Go.Proofs.YtcklfcoobccgcaaDoor
open Go.RowKit Go.Shelf

set_option maxRecDepth 20000 in
set_option maxHeartbeats 8000000 in
theorem check7_any (a : Nat → Option Addr) (c : Nat → Nat) (t : Nat → List Rg) (w : World) (p : Nat → Addr) (hg : Gl p w) (hT : PT w a c t) (hl : ∀ i, i < 11 → (t i).length ≤ 2147483648) :
    Calls Tryd.prog 19 #[PV a c t] w fun e w' => ∃ fv, e = .returned fv ∧ Says w' fv w.heap.size p (chk7 t) ∧ Below w.heap.size w w' := by
  unfold PV
  obtain ⟨W0, hW0, hsz0, hb0, hp⟩ := prop_box w a c t
  have e0 := hp 0 (by omega)
  have e1 := hp 1 (by omega)
  have e2 := hp 2 (by omega)
  have e3 := hp 3 (by omega)
  have e4 := hp 4 (by omega)
  have e5 := hp 5 (by omega)
  have e6 := hp 6 (by omega)
  have e7 := hp 7 (by omega)
  have e8 := hp 8 (by omega)
  have e9 := hp 9 (by omega)
  have e10 := hp 10 (by omega)
  obtain ⟨W1, hW1⟩ : ∃ W1, W0.alloc (.cells #[.slice (a 0) (t 0).length (c 0), .int .i64 5, .slice (a 1) (t 1).length (c 1), .int .i64 0, .slice (a 2) (t 2).length (c 2), .int .i64 0, .slice (a 3) (t 3).length (c 3), .int .i64 0, .slice (a 4) (t 4).length (c 4), .int .i64 0, .slice (a 5) (t 5).length (c 5), .int .i64 0, .slice (a 6) (t 6).length (c 6), .int .i64 0, .slice (a 7) (t 7).length (c 7), .int .i64 4, .slice (a 8) (t 8).length (c 8), .int .i64 5, .slice (a 9) (t 9).length (c 9), .int .i64 11, .slice (a 10) (t 10).length (c 10), .int .i64 0] 67) = W1 := ⟨_, rfl⟩
  have hsz1 : W1.heap.size = w.heap.size + 2 := by rw [← hW1, World.size_alloc, hsz0]
  have hb1 : Below W0.heap.size W0 W1 := by rw [← hW1]; exact (Below.refl _ _).alloc (Nat.le_refl _) _
  have hbw1 : Below w.heap.size w W1 := hb0.trans (hb1.mono hb0.size)
  have cf : ∀ i, i < 11 → W1.cell? ⟨w.heap.size + 1, i * 2, none⟩ = some (.slice (a i) (t i).length (c i)) ∧ W1.cell? ⟨w.heap.size + 1, i * 2 + 1, none⟩ = some (.int .i64 (mst i : Int)) := fun i hi => by
    have q : ∀ j, W1.cell? ⟨w.heap.size + 1, j, none⟩ = (#[.slice (a 0) (t 0).length (c 0), .int .i64 5, .slice (a 1) (t 1).length (c 1), .int .i64 0, .slice (a 2) (t 2).length (c 2), .int .i64 0, .slice (a 3) (t 3).length (c 3), .int .i64 0, .slice (a 4) (t 4).length (c 4), .int .i64 0, .slice (a 5) (t 5).length (c 5), .int .i64 0, .slice (a 6) (t 6).length (c 6), .int .i64 0, .slice (a 7) (t 7).length (c 7), .int .i64 4, .slice (a 8) (t 8).length (c 8), .int .i64 5, .slice (a 9) (t 9).length (c 9), .int .i64 11, .slice (a 10) (t 10).length (c 10), .int .i64 0] : Array Value)[j]? := fun j => by rw [← hW1, ← hsz0, World.cell?_alloc_new]
    rcases (by omega : i = 0 ∨ i = 1 ∨ i = 2 ∨ i = 3 ∨ i = 4 ∨ i = 5 ∨ i = 6 ∨ i = 7 ∨ i = 8 ∨ i = 9 ∨ i = 10) with rfl | rfl | rfl | rfl | rfl | rfl | rfl | rfl | rfl | rfl | rfl <;> exact ⟨(q _).trans rfl, (q _).trans rfl⟩
  have HT : Hid (∀ W, Below (w.heap.size + 2) W1 W → Below w.heap.size w W ∧ ∀ i, i < 11 → (W.cell? ⟨w.heap.size + 1, i * 2, none⟩ = some (.slice (a i) (t i).length (c i)) ∧ W.cell? ⟨w.heap.size + 1, i * 2 + 1, none⟩ = some (.int .i64 (mst i : Int)))) := fun W hb => by
    refine ⟨hbw1.trans (hb.mono (by omega)), fun i hi => ?_⟩
    obtain ⟨q1, q2⟩ := cf i hi
    exact ⟨(hb.cell (p := ⟨w.heap.size + 1, i * 2, none⟩) (by show w.heap.size + 1 < _; omega)).trans q1, (hb.cell (p := ⟨w.heap.size + 1, i * 2 + 1, none⟩) (by show w.heap.size + 1 < _; omega)).trans q2⟩
  have HC : Hid (∀ W, Below w.heap.size w W → ∀ i, i < 11 → _) := fun W hb i hi => checkTable_any (.slice (a i) (t i).length (c i)) (t i) (mst i) W p (hg.below hb) ((hT i hi).below hb) (hl i hi)
  have HAT : Hid (∀ k, k < 11 → (∀ i, i < k → (chkT (t i) (mst i)).2 = 0) → (chkT (t k) (mst k)).2 ≠ 0 → chk7 t = chkT (t k) (mst k)) := fun k hk h0 h => chk7_at hk h0 h
  have HNO : Hid ((∀ i, i < 11 → (chkT (t i) (mst i)).2 = 0) → chk7 t = (0, 0)) := chk7_none
  generalize chk7 t = res at *
  clear hp cf hg hT hl hb0 hb1 hbw1
  go_enter Tryd.func19, Tryd.ntmps19
  go_wp2
  clear e0 e1 e2 e3 e4 e5 e6 e7 e8 e9 e10
  go_loopw [43] (fun y wr => ∃ k : Nat, y = .int .i64 k ∧ k ≤ 11 ∧ Hid (∀ i, i < k → (chkT (t i) (mst i)).2 = 0) ∧ Below (w.heap.size + 2) W1 wr) (fun y _ => 11 - (intOf y).toNat)
  case atStart => exact ⟨0, rfl, by omega, fun i hi => by omega, Below.refl _ _⟩
  case round =>
    obtain ⟨k, rfl, hk, hok, hb⟩ := hrel
    obtain ⟨hbw, HTk⟩ := HT.out wr hb
    have hszr : w.heap.size + 2 ≤ wr.heap.size := by have := hb.size; omega
    by_cases hlt : k < 11
    · obtain ⟨q1, q2⟩ := HTk k hlt
      have HCk : Hid (∀ W, Below w.heap.size w W → _) := fun W hb => HC.out W hb k hlt
      have HA := Hid.mk' (fun h => HAT.out k hlt hok.out h)
      have HOK : Hid ((chkT (t k) (mst k)).2 = 0 → ∀ i, i < k + 1 → (chkT (t i) (mst i)).2 = 0) := fun hd i hi => by
        rcases Nat.lt_or_ge i k with g | g
        · exact hok.out i g
        · obtain rfl : i = k := by omega
          exact hd
      generalize chkT (t k) (mst k) = x at *
      generalize (t k).length = n at *
      generalize a k = ak at *
      generalize c k = ck at *
      generalize mst k = mk at *
      obtain ⟨WA, hWA⟩ : ∃ WA, wr.alloc (.cells #[.slice ak n ck, .int .i64 (mk : Int)] 67) = WA := ⟨_, rfl⟩
      have hbA : Below wr.heap.size wr WA := by rw [← hWA]; exact (Below.refl _ _).alloc (Nat.le_refl _) _
      have hbwA : Below w.heap.size w WA := hbw.trans (hbA.mono hbw.size)
      have HB := Hid.mk' (hb.trans (hbA.mono hszr))
      have r0 : WA.cell? ⟨wr.heap.size, 0, none⟩ = some (.slice ak n ck) := by rw [← hWA, World.cell?_alloc_new]; rfl
      have r1 : WA.cell? ⟨wr.heap.size, 1, none⟩ = some (.int .i64 (mk : Int)) := by rw [← hWA, World.cell?_alloc_new]; rfl
      have hszA : w.heap.size + 2 ≤ WA.heap.size := by have := hbA.size; omega
      have HCA := Hid.mk' (HCk.out WA hbwA)
      have hklz : (k : Int) < 11 := by omega
      clear HTk HCk HAT HNO HT HC hbA
      go_wp2_with fail
      refine HCA.out.mono ?_
      rintro e w2 ⟨fv, rfl, hsay, hb2⟩
      have hbw2 := hbwA.trans (hb2.mono hbwA.size)
      have HB2 := Hid.mk' (HB.out.trans (hb2.mono hszA))
      rcases hsay with ⟨hz, rfl⟩ | ⟨hnz, hf⟩
      · have hok' := Hid.mk' (HOK.out (by rw [hz]))
        clear hz
        go_wp2
        go_roundw
        case rel => exact ⟨k + 1, by go_num, by omega, hok', HB2.out⟩
        case measure => simp [intOf]; omega
      · have hres := Hid.mk' (HA.out hnz)
        have HF := Hid.mk' hf
        have HNZ := Hid.mk' hnz
        obtain ⟨b, hbb, rfl, -, -⟩ := hf
        clear hnz
        go_wp2
        go_ret
        refine ⟨_, rfl, ?_, hbw2⟩
        rw [hres.out]
        exact .inr ⟨HNZ.out, HF.out.weaken (by omega) rfl⟩
    · obtain rfl : k = 11 := by omega
      have hres := Hid.mk' (HNO.out hok.out)
      clear HTk HT HC HAT
      go_wp2
      go_ret
      exact ⟨_, rfl, .inl ⟨hres.out, rfl⟩, hbw⟩
end Go.Proofs.YtcklfcoobccgcaaDoor

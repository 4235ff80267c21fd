/-
  What is proved here: that ContextsDigits answers true at any tables and any runes.
-/
import Derived.Test.YtlnehhfljjeifaaDoorL7
import Derived.Test.YtlnehhfljjeifaaDoorLF
namespace Go.Proofs.YtlnehhfljjeifaaDoor
open Go.RowKit Go.Shelf

/-- what right tables give the walks of contexts -/
theorem right8 {n : Nm} {t : Nat → List Rg} (h : chk8 n t = (0, 0)) : Rises n.cls ∧ Apart n.cls ∧ ∀ i, i < 11 → Ok (t i) := by
  have h2 : (chk8 n t).2 = 0 := by rw [h]
  obtain ⟨h4, h7⟩ := orE_zero h2
  obtain ⟨-, -, hap, hri⟩ := right_parts (right4 h4).cls
  exact ⟨hri, hap, right7_ok h7⟩
/-- what the loop keeps: which digits were seen -/
def DigInv (cl sc : List Rg) (l : List Int) (k : Nat) (A B : Bool) : Prop := (A = true → ∃ i, i < k ∧ ruleM (l.getD i 0) = 7 ∧ holdsM cl sc l i = true) ∧ (B = true → ∃ j, j < k ∧ ruleM (l.getD j 0) = 8)
theorem dig_start (cl sc : List Rg) (l : List Int) : DigInv cl sc l 0 false false := ⟨fun h => Bool.noConfusion h, fun h => Bool.noConfusion h⟩
set_option maxRecDepth 20000 in
set_option maxHeartbeats 16000000 in
theorem digits8_any (w : World) (p : Nat → Addr) (hg : Gl p w) (ra la : Option Addr) (rcap ln lc : Nat) (vc ve : Value) (n : Nm) (a : Nat → Option Addr) (c : Nat → Nat) (t : Nat → List Rg) (hcap : n.rows.length ≤ rcap) (hR : Rows4 w (.slice ra n.rows.length rcap) n.rows) (hC : Tab w vc n.cls) (hE : Runes w ve n.exc) (hT : PT w a c t) (v : Value) (l : List Int) (hv : Runes w v l) :
    Calls Tryd.prog 3 #[TV (.slice ra n.rows.length rcap) vc ve a c t (.slice la ln lc), v] w fun e w' => e = .returned (.bool true) ∧ Below w.heap.size w w' := by
  obtain ⟨ca, ccap, rfl, -⟩ := id hC
  obtain ⟨ea, ecap, rfl, -⟩ := id hE
  obtain ⟨av, lcap, rfl, hvj⟩ := id hv
  obtain ⟨W0, hW0, hsz0, hb0, hB⟩ := tab_box w (.slice ra n.rows.length rcap) (.slice ca n.cls.length ccap) (.slice ea n.exc.length ecap) a c t (.slice la ln lc)
  have HA := Hid.mk' (awake8_any W0)
  have HGr : Hid (∀ W, Below w.heap.size w W → _) := fun W hb => great8_any ra ca ea la rcap ccap ecap ln lc n a c t W (hR.below hb) (hC.below hb) (hE.below hb)
  have HB : Hid (∀ W, Below W0.heap.size W0 W → Below w.heap.size w W ∧ TB W w.heap.size (.slice ra n.rows.length rcap) (.slice ca n.cls.length ccap) (.slice ea n.exc.length ecap) a c t (.slice la ln lc)) := fun W hb => ⟨hb0.trans (hb.mono hb0.size), hB.below hb (by omega)⟩
  unfold TV at HGr ⊢
  by_cases hbig : great8 n t = true ∨ 20 < l.length
  · have hx : great8 n t = true ∨ (great8 n t = false ∧ 20 < l.length) := by
      cases hgr : great8 n t
      · exact .inr ⟨rfl, by rcases hbig with h | h; rw [hgr] at h; cases h; exact h⟩
      · exact .inl rfl
    clear hbig hg hR hC hE hT hb0 hB hv hvj hcap
    rcases hx with hgr | ⟨hgr, h20⟩
    · rw [hgr] at HGr
      clear hgr
      go_enter Tryd.func3, Tryd.ntmps3
      go_wp2_with fail
      refine HA.out.mono ?_
      rintro e w1 ⟨rfl, hb1⟩
      obtain ⟨hbw1, hB1⟩ := HB.out w1 hb1
      have xr := hB1.r
      have xk := hB1.k
      have xe := hB1.e
      have xl := hB1.l
      have x0 : w1.cell? ⟨w.heap.size, 3, none⟩ = some (.slice (a 0) (t 0).length (c 0)) := hB1.p 0 (by omega)
      have x1 : w1.cell? ⟨w.heap.size, 4, none⟩ = some (.slice (a 1) (t 1).length (c 1)) := hB1.p 1 (by omega)
      have x2 : w1.cell? ⟨w.heap.size, 5, none⟩ = some (.slice (a 2) (t 2).length (c 2)) := hB1.p 2 (by omega)
      have x3 : w1.cell? ⟨w.heap.size, 6, none⟩ = some (.slice (a 3) (t 3).length (c 3)) := hB1.p 3 (by omega)
      have x4 : w1.cell? ⟨w.heap.size, 7, none⟩ = some (.slice (a 4) (t 4).length (c 4)) := hB1.p 4 (by omega)
      have x5 : w1.cell? ⟨w.heap.size, 8, none⟩ = some (.slice (a 5) (t 5).length (c 5)) := hB1.p 5 (by omega)
      have x6 : w1.cell? ⟨w.heap.size, 9, none⟩ = some (.slice (a 6) (t 6).length (c 6)) := hB1.p 6 (by omega)
      have x7 : w1.cell? ⟨w.heap.size, 10, none⟩ = some (.slice (a 7) (t 7).length (c 7)) := hB1.p 7 (by omega)
      have x8 : w1.cell? ⟨w.heap.size, 11, none⟩ = some (.slice (a 8) (t 8).length (c 8)) := hB1.p 8 (by omega)
      have x9 : w1.cell? ⟨w.heap.size, 12, none⟩ = some (.slice (a 9) (t 9).length (c 9)) := hB1.p 9 (by omega)
      have x10 : w1.cell? ⟨w.heap.size, 13, none⟩ = some (.slice (a 10) (t 10).length (c 10)) := hB1.p 10 (by omega)
      go_wp2_with fail
      refine (HGr.out w1 hbw1).mono ?_
      rintro e w2 ⟨rfl, hb2⟩
      go_wp2
      go_ret
      exact ⟨rfl, hbw1.trans (hb2.mono hbw1.size)⟩
    · rw [hgr] at HGr
      have hd : decide (20 < l.length) = true := decide_eq_true h20
      have hdz : decide ((20 : Int) < (l.length : Int)) = true := decide_eq_true (by omega)
      clear hgr h20
      go_enter Tryd.func3, Tryd.ntmps3
      go_wp2_with fail
      refine HA.out.mono ?_
      rintro e w1 ⟨rfl, hb1⟩
      obtain ⟨hbw1, hB1⟩ := HB.out w1 hb1
      have xr := hB1.r
      have xk := hB1.k
      have xe := hB1.e
      have xl := hB1.l
      have x0 : w1.cell? ⟨w.heap.size, 3, none⟩ = some (.slice (a 0) (t 0).length (c 0)) := hB1.p 0 (by omega)
      have x1 : w1.cell? ⟨w.heap.size, 4, none⟩ = some (.slice (a 1) (t 1).length (c 1)) := hB1.p 1 (by omega)
      have x2 : w1.cell? ⟨w.heap.size, 5, none⟩ = some (.slice (a 2) (t 2).length (c 2)) := hB1.p 2 (by omega)
      have x3 : w1.cell? ⟨w.heap.size, 6, none⟩ = some (.slice (a 3) (t 3).length (c 3)) := hB1.p 3 (by omega)
      have x4 : w1.cell? ⟨w.heap.size, 7, none⟩ = some (.slice (a 4) (t 4).length (c 4)) := hB1.p 4 (by omega)
      have x5 : w1.cell? ⟨w.heap.size, 8, none⟩ = some (.slice (a 5) (t 5).length (c 5)) := hB1.p 5 (by omega)
      have x6 : w1.cell? ⟨w.heap.size, 9, none⟩ = some (.slice (a 6) (t 6).length (c 6)) := hB1.p 6 (by omega)
      have x7 : w1.cell? ⟨w.heap.size, 10, none⟩ = some (.slice (a 7) (t 7).length (c 7)) := hB1.p 7 (by omega)
      have x8 : w1.cell? ⟨w.heap.size, 11, none⟩ = some (.slice (a 8) (t 8).length (c 8)) := hB1.p 8 (by omega)
      have x9 : w1.cell? ⟨w.heap.size, 12, none⟩ = some (.slice (a 9) (t 9).length (c 9)) := hB1.p 9 (by omega)
      have x10 : w1.cell? ⟨w.heap.size, 13, none⟩ = some (.slice (a 10) (t 10).length (c 10)) := hB1.p 10 (by omega)
      go_wp2_with fail
      refine (HGr.out w1 hbw1).mono ?_
      rintro e w2 ⟨rfl, hb2⟩
      go_wp2
      go_ret
      exact ⟨rfl, hbw1.trans (hb2.mono hbw1.size)⟩
  have hgr : great8 n t = false := by
    cases h : great8 n t
    · rfl
    · exact absurd (.inl h) hbig
  have hl20 : l.length ≤ 20 := by omega
  have hd : decide (20 < l.length) = false := decide_eq_false (by omega)
  have hdz : decide ((20 : Int) < (l.length : Int)) = false := decide_eq_false (by omega)
  rw [hgr] at HGr
  obtain ⟨hg4, hg7⟩ := great8_false hgr
  obtain ⟨hl1, hl2, hl3, hl4⟩ := great_false hg4
  have hl7 := great7_false hg7
  have HCK : Hid (∀ W, Below w.heap.size w W → _) := fun W hb => check8_any ra ca ea la rcap ccap ecap ln lc n a c t W p (hg.below hb) hcap (hR.below hb) (hC.below hb) (hE.below hb) (hT.below hb) hl7 hl1 hl2 hl3 hl4
  have HRU : Hid (∀ x k W, ruleM x = k → _) := fun x k W h => rule_any x W
  have HHO : Hid (chk8 n t = (0, 0) → ∀ W b off i, Below w.heap.size w W → av = some ⟨b, off, none⟩ → i < l.length → (Calls Tryd.prog 9 #[TV (.slice ra n.rows.length rcap) (.slice ca n.cls.length ccap) (.slice ea n.exc.length ecap) a c t (.slice la ln lc), .slice (some ⟨b, off, none⟩) l.length lcap, .int .i64 i] W fun e w' => ∃ q, e = .returned (.bool q) ∧ (ruleM (l.getD i 0) ≠ 1 → q = holdsM n.cls (t 8) l i) ∧ Below W.heap.size W w')) := fun h W b off i hb e hi => by
    subst e
    obtain ⟨hri, hap, hok⟩ := right8 h
    exact holds_any ra ca ea la rcap ccap ecap ln lc n a c t b off lcap l i W (hC.below hb) (by omega) hri hap (hT.below hb) hok (hv.below hb) (by omega) hi
  have HVJ : Hid (∀ W, Below w.heap.size w W → ∀ j, j < l.length → ∃ b off, av = some ⟨b, off, none⟩ ∧ W.cell? ⟨b, off + j, none⟩ = some (.int .i32 (l.getD j 0))) := fun W hb j hj => by
    obtain ⟨b, off, rfl, q⟩ := hvj j hj
    exact ⟨b, off, rfl, (hb.cell (p := ⟨b, off + j, none⟩) (lt_of_cell q)).trans q⟩
  have HONE : Hid (∀ i j, i < l.length → j < l.length → ruleM (l.getD i 0) = 7 → ruleM (l.getD j 0) = 8 → holdsM n.cls (t 8) l i = true → False) := fun i j hi hj h7 h8 h => digits_one i j hi hj h7 h8 h
  unfold TV at HCK HHO
  generalize chk8 n t = x at HCK HHO
  clear hgr hg hR hC hE hT hb0 hB hl1 hl2 hl3 hl4 hl7 hg4 hg7 hv hvj hbig hcap HRU
  go_enter Tryd.func3, Tryd.ntmps3
  go_wp2_with fail
  refine HA.out.mono ?_
  rintro e w1 ⟨rfl, hb1⟩
  obtain ⟨hbw1, hB1⟩ := HB.out w1 hb1
  have xr := hB1.r
  have xk := hB1.k
  have xe := hB1.e
  have xl := hB1.l
  have x0 : w1.cell? ⟨w.heap.size, 3, none⟩ = some (.slice (a 0) (t 0).length (c 0)) := hB1.p 0 (by omega)
  have x1 : w1.cell? ⟨w.heap.size, 4, none⟩ = some (.slice (a 1) (t 1).length (c 1)) := hB1.p 1 (by omega)
  have x2 : w1.cell? ⟨w.heap.size, 5, none⟩ = some (.slice (a 2) (t 2).length (c 2)) := hB1.p 2 (by omega)
  have x3 : w1.cell? ⟨w.heap.size, 6, none⟩ = some (.slice (a 3) (t 3).length (c 3)) := hB1.p 3 (by omega)
  have x4 : w1.cell? ⟨w.heap.size, 7, none⟩ = some (.slice (a 4) (t 4).length (c 4)) := hB1.p 4 (by omega)
  have x5 : w1.cell? ⟨w.heap.size, 8, none⟩ = some (.slice (a 5) (t 5).length (c 5)) := hB1.p 5 (by omega)
  have x6 : w1.cell? ⟨w.heap.size, 9, none⟩ = some (.slice (a 6) (t 6).length (c 6)) := hB1.p 6 (by omega)
  have x7 : w1.cell? ⟨w.heap.size, 10, none⟩ = some (.slice (a 7) (t 7).length (c 7)) := hB1.p 7 (by omega)
  have x8 : w1.cell? ⟨w.heap.size, 11, none⟩ = some (.slice (a 8) (t 8).length (c 8)) := hB1.p 8 (by omega)
  have x9 : w1.cell? ⟨w.heap.size, 12, none⟩ = some (.slice (a 9) (t 9).length (c 9)) := hB1.p 9 (by omega)
  have x10 : w1.cell? ⟨w.heap.size, 13, none⟩ = some (.slice (a 10) (t 10).length (c 10)) := hB1.p 10 (by omega)
  clear hB1
  go_wp2_with fail
  refine (HGr.out w1 hbw1).mono ?_
  rintro e w2 ⟨rfl, hb2⟩
  have hb02 := hb1.trans (hb2.mono hb1.size)
  obtain ⟨hbw2, hB2⟩ := HB.out w2 hb02
  clear xr xk xe xl x0 x1 x2 x3 x4 x5 x6 x7 x8 x9 x10 hb1 hb2 hbw1
  have yr := hB2.r
  have yk := hB2.k
  have ye := hB2.e
  have yl := hB2.l
  have y0 : w2.cell? ⟨w.heap.size, 3, none⟩ = some (.slice (a 0) (t 0).length (c 0)) := hB2.p 0 (by omega)
  have y1 : w2.cell? ⟨w.heap.size, 4, none⟩ = some (.slice (a 1) (t 1).length (c 1)) := hB2.p 1 (by omega)
  have y2 : w2.cell? ⟨w.heap.size, 5, none⟩ = some (.slice (a 2) (t 2).length (c 2)) := hB2.p 2 (by omega)
  have y3 : w2.cell? ⟨w.heap.size, 6, none⟩ = some (.slice (a 3) (t 3).length (c 3)) := hB2.p 3 (by omega)
  have y4 : w2.cell? ⟨w.heap.size, 7, none⟩ = some (.slice (a 4) (t 4).length (c 4)) := hB2.p 4 (by omega)
  have y5 : w2.cell? ⟨w.heap.size, 8, none⟩ = some (.slice (a 5) (t 5).length (c 5)) := hB2.p 5 (by omega)
  have y6 : w2.cell? ⟨w.heap.size, 9, none⟩ = some (.slice (a 6) (t 6).length (c 6)) := hB2.p 6 (by omega)
  have y7 : w2.cell? ⟨w.heap.size, 10, none⟩ = some (.slice (a 7) (t 7).length (c 7)) := hB2.p 7 (by omega)
  have y8 : w2.cell? ⟨w.heap.size, 11, none⟩ = some (.slice (a 8) (t 8).length (c 8)) := hB2.p 8 (by omega)
  have y9 : w2.cell? ⟨w.heap.size, 12, none⟩ = some (.slice (a 9) (t 9).length (c 9)) := hB2.p 9 (by omega)
  have y10 : w2.cell? ⟨w.heap.size, 13, none⟩ = some (.slice (a 10) (t 10).length (c 10)) := hB2.p 10 (by omega)
  clear hB2
  go_wp2_with fail
  refine (HCK.out w2 hbw2).mono ?_
  rintro e w4 ⟨fv, rfl, hsay, hb4⟩
  have hb04 := hb02.trans (hb4.mono hb02.size)
  clear yr yk ye yl y0 y1 y2 y3 y4 y5 y6 y7 y8 y9 y10 hb4 hb02
  rcases hsay with ⟨hz, rfl⟩ | ⟨hnz, hf⟩
  rotate_left
  · obtain ⟨fb, -, rfl, -, -⟩ := hf
    have hbw4 := (HB.out w4 hb04).1
    clear hnz
    go_wp2
    go_ret
    exact ⟨rfl, hbw4⟩
  have HH := Hid.mk' (HHO.out hz)
  clear HHO HCK HGr hz HA hbw2
  go_wp2
  go_loopw [5, 6, 7] (fun xa xb xi wr => ∃ (k : Nat) (A B : Bool), xa = .bool A ∧ xb = .bool B ∧ xi = .int .i64 k ∧ k ≤ l.length ∧ DigInv n.cls (t 8) l k A B ∧ Below W0.heap.size W0 wr) (fun _ _ xi _ => l.length - (intOf xi).toNat)
  case atStart => exact ⟨0, false, false, rfl, rfl, rfl, Nat.zero_le _, dig_start _ _ _, hb04⟩
  case round =>
    obtain ⟨k, A, B, rfl, rfl, rfl, hkl, HI, hb⟩ := hrel
    obtain ⟨hbw, hBr⟩ := HB.out wr hb
    by_cases hlt : k < l.length
    · obtain ⟨b, off, rfl, ck⟩ := HVJ.out wr hbw k hlt
      have HHk := Hid.mk' (HH.out wr b off k hbw rfl hlt)
      have HR := Hid.mk' (rule_any (l.getD k 0) wr)
      have HI0 : DigInv n.cls (t 8) l (k + 1) A B := ⟨fun h => by obtain ⟨i, h1, h2⟩ := HI.1 h; exact ⟨i, by omega, h2⟩, fun h => by obtain ⟨i, h1, h2⟩ := HI.2 h; exact ⟨i, by omega, h2⟩⟩
      have HI7 : Hid (ruleM (l.getD k 0) = 7 → holdsM n.cls (t 8) l k = true → DigInv n.cls (t 8) l (k + 1) true B) := fun h7 h => ⟨fun _ => ⟨k, by omega, h7, h⟩, HI0.2⟩
      have HI8 : Hid (ruleM (l.getD k 0) = 8 → DigInv n.cls (t 8) l (k + 1) A true) := fun h8 => ⟨HI0.1, fun _ => ⟨k, by omega, h8⟩⟩
      have hle := ruleM_le (l.getD k 0)
      have hklz : (k : Int) < (l.length : Int) := by omega
      have xr := hBr.r
      have xk := hBr.k
      have xe := hBr.e
      have xl := hBr.l
      have x0 : wr.cell? ⟨w.heap.size, 3, none⟩ = some (.slice (a 0) (t 0).length (c 0)) := hBr.p 0 (by omega)
      have x1 : wr.cell? ⟨w.heap.size, 4, none⟩ = some (.slice (a 1) (t 1).length (c 1)) := hBr.p 1 (by omega)
      have x2 : wr.cell? ⟨w.heap.size, 5, none⟩ = some (.slice (a 2) (t 2).length (c 2)) := hBr.p 2 (by omega)
      have x3 : wr.cell? ⟨w.heap.size, 6, none⟩ = some (.slice (a 3) (t 3).length (c 3)) := hBr.p 3 (by omega)
      have x4 : wr.cell? ⟨w.heap.size, 7, none⟩ = some (.slice (a 4) (t 4).length (c 4)) := hBr.p 4 (by omega)
      have x5 : wr.cell? ⟨w.heap.size, 8, none⟩ = some (.slice (a 5) (t 5).length (c 5)) := hBr.p 5 (by omega)
      have x6 : wr.cell? ⟨w.heap.size, 9, none⟩ = some (.slice (a 6) (t 6).length (c 6)) := hBr.p 6 (by omega)
      have x7 : wr.cell? ⟨w.heap.size, 10, none⟩ = some (.slice (a 7) (t 7).length (c 7)) := hBr.p 7 (by omega)
      have x8 : wr.cell? ⟨w.heap.size, 11, none⟩ = some (.slice (a 8) (t 8).length (c 8)) := hBr.p 8 (by omega)
      have x9 : wr.cell? ⟨w.heap.size, 12, none⟩ = some (.slice (a 9) (t 9).length (c 9)) := hBr.p 9 (by omega)
      have x10 : wr.cell? ⟨w.heap.size, 13, none⟩ = some (.slice (a 10) (t 10).length (c 10)) := hBr.p 10 (by omega)
      generalize l.getD k 0 = x at HHk HR HI7 HI8 hle ck
      rcases (by omega : ruleM x = 0 ∨ ruleM x = 1 ∨ ruleM x = 2 ∨ ruleM x = 3 ∨ ruleM x = 4 ∨ ruleM x = 5 ∨ ruleM x = 6 ∨ ruleM x = 7 ∨ ruleM x = 8) with hk | hk | hk | hk | hk | hk | hk | hk | hk <;> (rw [hk] at HR HHk HI7 HI8) <;> clear hle
      · have HRk : Hid (Calls Tryd.prog 8 #[.int .i32 x] wr fun e w' => e = .returned (.int .i64 0) ∧ wr = w') := HR.out
        clear HR hk
        go_wp2_with fail
        refine HRk.out.mono ?_
        rintro e w5 ⟨rfl, rfl⟩
        go_wp2
        go_roundw
        case rel => exact ⟨k + 1, A, B, rfl, rfl, by go_num, by omega, HI0, hb⟩
        case measure => simp [intOf]; omega
      · have HRk : Hid (Calls Tryd.prog 8 #[.int .i32 x] wr fun e w' => e = .returned (.int .i64 1) ∧ wr = w') := HR.out
        clear HR hk
        go_wp2_with fail
        refine HRk.out.mono ?_
        rintro e w5 ⟨rfl, rfl⟩
        go_wp2_with fail
        refine HHk.out.mono ?_
        rintro e w6 ⟨q, rfl, hq0, hb5⟩
        have hq := Hid.mk' hq0
        have hb6 := hb.trans (hb5.mono hb.size)
        clear hq0 hb5 xr xk xe xl x0 x1 x2 x3 x4 x5 x6 x7 x8 x9 x10
        cases q
        · have hbw6 := (HB.out w6 hb6).1
          go_wp2
          go_ret
          exact ⟨rfl, hbw6⟩
        · skip
          go_wp2
          go_roundw
          case rel => exact ⟨k + 1, A, B, rfl, rfl, by go_num, by omega, HI0, hb6⟩
          case measure => simp [intOf]; omega
      · have HRk : Hid (Calls Tryd.prog 8 #[.int .i32 x] wr fun e w' => e = .returned (.int .i64 2) ∧ wr = w') := HR.out
        clear HR hk
        go_wp2_with fail
        refine HRk.out.mono ?_
        rintro e w5 ⟨rfl, rfl⟩
        go_wp2_with fail
        refine HHk.out.mono ?_
        rintro e w6 ⟨q, rfl, hq0, hb5⟩
        have hq := Hid.mk' hq0
        have hb6 := hb.trans (hb5.mono hb.size)
        clear hq0 hb5 xr xk xe xl x0 x1 x2 x3 x4 x5 x6 x7 x8 x9 x10
        cases q
        · have hbw6 := (HB.out w6 hb6).1
          go_wp2
          go_ret
          exact ⟨rfl, hbw6⟩
        · skip
          go_wp2
          go_roundw
          case rel => exact ⟨k + 1, A, B, rfl, rfl, by go_num, by omega, HI0, hb6⟩
          case measure => simp [intOf]; omega
      · have HRk : Hid (Calls Tryd.prog 8 #[.int .i32 x] wr fun e w' => e = .returned (.int .i64 3) ∧ wr = w') := HR.out
        clear HR hk
        go_wp2_with fail
        refine HRk.out.mono ?_
        rintro e w5 ⟨rfl, rfl⟩
        go_wp2_with fail
        refine HHk.out.mono ?_
        rintro e w6 ⟨q, rfl, hq0, hb5⟩
        have hq := Hid.mk' hq0
        have hb6 := hb.trans (hb5.mono hb.size)
        clear hq0 hb5 xr xk xe xl x0 x1 x2 x3 x4 x5 x6 x7 x8 x9 x10
        cases q
        · have hbw6 := (HB.out w6 hb6).1
          go_wp2
          go_ret
          exact ⟨rfl, hbw6⟩
        · skip
          go_wp2
          go_roundw
          case rel => exact ⟨k + 1, A, B, rfl, rfl, by go_num, by omega, HI0, hb6⟩
          case measure => simp [intOf]; omega
      · have HRk : Hid (Calls Tryd.prog 8 #[.int .i32 x] wr fun e w' => e = .returned (.int .i64 4) ∧ wr = w') := HR.out
        clear HR hk
        go_wp2_with fail
        refine HRk.out.mono ?_
        rintro e w5 ⟨rfl, rfl⟩
        go_wp2_with fail
        refine HHk.out.mono ?_
        rintro e w6 ⟨q, rfl, hq0, hb5⟩
        have hq := Hid.mk' hq0
        have hb6 := hb.trans (hb5.mono hb.size)
        clear hq0 hb5 xr xk xe xl x0 x1 x2 x3 x4 x5 x6 x7 x8 x9 x10
        cases q
        · have hbw6 := (HB.out w6 hb6).1
          go_wp2
          go_ret
          exact ⟨rfl, hbw6⟩
        · skip
          go_wp2
          go_roundw
          case rel => exact ⟨k + 1, A, B, rfl, rfl, by go_num, by omega, HI0, hb6⟩
          case measure => simp [intOf]; omega
      · have HRk : Hid (Calls Tryd.prog 8 #[.int .i32 x] wr fun e w' => e = .returned (.int .i64 5) ∧ wr = w') := HR.out
        clear HR hk
        go_wp2_with fail
        refine HRk.out.mono ?_
        rintro e w5 ⟨rfl, rfl⟩
        go_wp2_with fail
        refine HHk.out.mono ?_
        rintro e w6 ⟨q, rfl, hq0, hb5⟩
        have hq := Hid.mk' hq0
        have hb6 := hb.trans (hb5.mono hb.size)
        clear hq0 hb5 xr xk xe xl x0 x1 x2 x3 x4 x5 x6 x7 x8 x9 x10
        cases q
        · have hbw6 := (HB.out w6 hb6).1
          go_wp2
          go_ret
          exact ⟨rfl, hbw6⟩
        · skip
          go_wp2
          go_roundw
          case rel => exact ⟨k + 1, A, B, rfl, rfl, by go_num, by omega, HI0, hb6⟩
          case measure => simp [intOf]; omega
      · have HRk : Hid (Calls Tryd.prog 8 #[.int .i32 x] wr fun e w' => e = .returned (.int .i64 6) ∧ wr = w') := HR.out
        clear HR hk
        go_wp2_with fail
        refine HRk.out.mono ?_
        rintro e w5 ⟨rfl, rfl⟩
        go_wp2_with fail
        refine HHk.out.mono ?_
        rintro e w6 ⟨q, rfl, hq0, hb5⟩
        have hq := Hid.mk' hq0
        have hb6 := hb.trans (hb5.mono hb.size)
        clear hq0 hb5 xr xk xe xl x0 x1 x2 x3 x4 x5 x6 x7 x8 x9 x10
        cases q
        · have hbw6 := (HB.out w6 hb6).1
          go_wp2
          go_ret
          exact ⟨rfl, hbw6⟩
        · skip
          go_wp2
          go_roundw
          case rel => exact ⟨k + 1, A, B, rfl, rfl, by go_num, by omega, HI0, hb6⟩
          case measure => simp [intOf]; omega
      · have HRk : Hid (Calls Tryd.prog 8 #[.int .i32 x] wr fun e w' => e = .returned (.int .i64 7) ∧ wr = w') := HR.out
        clear HR hk
        go_wp2_with fail
        refine HRk.out.mono ?_
        rintro e w5 ⟨rfl, rfl⟩
        go_wp2_with fail
        refine HHk.out.mono ?_
        rintro e w6 ⟨q, rfl, hq0, hb5⟩
        have hq := Hid.mk' hq0
        have hb6 := hb.trans (hb5.mono hb.size)
        clear hq0 hb5 xr xk xe xl x0 x1 x2 x3 x4 x5 x6 x7 x8 x9 x10
        cases q
        · have hbw6 := (HB.out w6 hb6).1
          go_wp2
          go_ret
          exact ⟨rfl, hbw6⟩
        · skip
          have HN := HI7.out (by first | rfl | trivial) (hq.out (by decide)).symm
          go_wp2
          go_roundw
          case rel => exact ⟨k + 1, true, B, rfl, rfl, by go_num, by omega, HN, hb6⟩
          case measure => simp [intOf]; omega
      · have HRk : Hid (Calls Tryd.prog 8 #[.int .i32 x] wr fun e w' => e = .returned (.int .i64 8) ∧ wr = w') := HR.out
        clear HR hk
        go_wp2_with fail
        refine HRk.out.mono ?_
        rintro e w5 ⟨rfl, rfl⟩
        go_wp2_with fail
        refine HHk.out.mono ?_
        rintro e w6 ⟨q, rfl, hq0, hb5⟩
        have hq := Hid.mk' hq0
        have hb6 := hb.trans (hb5.mono hb.size)
        clear hq0 hb5 xr xk xe xl x0 x1 x2 x3 x4 x5 x6 x7 x8 x9 x10
        cases q
        · have hbw6 := (HB.out w6 hb6).1
          go_wp2
          go_ret
          exact ⟨rfl, hbw6⟩
        · skip
          have HN := HI8.out (by first | rfl | trivial)
          go_wp2
          go_roundw
          case rel => exact ⟨k + 1, A, true, rfl, rfl, by go_num, by omega, HN, hb6⟩
          case measure => simp [intOf]; omega
    · obtain rfl : k = l.length := by omega
      have HF : Hid (A = true → B = true → False) := fun ha hb => by
        obtain ⟨i, h1, h2, h3⟩ := HI.1 ha
        obtain ⟨j, h4, h5⟩ := HI.2 hb
        exact HONE.out i j h1 h4 h2 h5 h3
      clear HI
      cases A
      · go_wp2
        go_ret
        exact ⟨rfl, hbw⟩
      · cases B
        · go_wp2
          go_ret
          exact ⟨rfl, hbw⟩
        · exact (HF.out rfl rfl).elim
end Go.Proofs.YtlnehhfljjeifaaDoor

/-
  What is proved here: that DecompChecks answers true at every norm. · that ContextsChecks answers true at any tables and any rune.
-/
import Derived.Test.YtlnehhfljjeifaaGreatDoorE3
import Derived.Test.YtlnehhfljjeifaaGreatDoorE5
import Derived.Test.YtlnehhfljjeifaaGreatDoorKB
import Derived.Test.YtlnehhfljjeifaaGreatDoorHB
import Derived.Test.YtlnehhfljjeifaaGreatDoorL7
import Derived.Test.YtlnehhfljjeifaaGreatDoorLF
namespace Go.Proofs.YtlnehhfljjeifaaGreatDoor
open Go.RowKit

theorem ff_code {f : Nat → Nat} {n : Nat} (h : (ff f n).2 ≠ 0) : ∃ i, (ff f n).2 = f i := by
  obtain ⟨k, _, _, _, e⟩ := ff_ne f n h
  exact ⟨k, by rw [e]⟩
theorem chk_codes {l : List Rg} (h : (chk l).2 ≠ 0) : (chk l).2 = 4 ∨ (chk l).2 = 6 ∨ (chk l).2 = 18 := by
  unfold chk at *
  cases hf : faultsM l with
  | nil => rw [hf] at h; exact absurd rfl h
  | cons x s =>
    have hx : x ∈ faultsM l := by rw [hf]; simp
    unfold faultsM at hx
    split at hx
    · simp at hx; subst hx; exact .inr (.inr rfl)
    · unfold faultsTo at hx
      obtain ⟨i, hi, rfl⟩ := List.mem_map.1 hx
      have := (List.mem_filter.1 hi).2
      show codeAt l i = 4 ∨ codeAt l i = 6 ∨ codeAt l i = 18
      have hc : codeAt l i ≠ 0 := by simpa using this
      unfold codeAt at *
      split
      · exact .inl rfl
      · split
        · exact .inr (.inl rfl)
        · rename_i h1 h2; rw [if_neg h1, if_neg h2] at hc; exact absurd rfl hc
theorem orE_cases (a b : Nat × Nat) : orE a b = a ∨ orE a b = b := by
  by_cases h : a.2 = 0
  · exact .inr (orE_r h)
  · exact .inl (orE_l h)
theorem row_code (l : List Rw) (i : Nat) (h : rowCode l i ≠ 0) : Code (rowCode l i) := by
  have q : rowCode l i = 4 ∨ rowCode l i = 6 ∨ rowCode l i = 5 ∨ rowCode l i = 9 ∨ rowCode l i = 0 := by
    unfold rowCode
    repeat' split
    all_goals simp
  unfold Code; omega
theorem cls_code (l : List Rg) (i : Nat) (h : clsCode l i ≠ 0) : Code (clsCode l i) := by
  have q : clsCode l i = 0 ∨ clsCode l i = 17 := by
    unfold clsCode
    repeat' split
    all_goals simp
  unfold Code; omega
theorem exc_code (l : List Int) (i : Nat) (h : excCode l i ≠ 0) : Code (excCode l i) := by
  have q : excCode l i = 4 ∨ excCode l i = 6 ∨ excCode l i = 0 := by
    unfold excCode
    repeat' split
    all_goals simp
  unfold Code; omega
theorem there_code (t : Nm) (i : Nat) (h : thereCode t i ≠ 0) : Code (thereCode t i) := by
  have q : thereCode t i = 7 ∨ thereCode t i = 0 := by
    unfold thereCode
    repeat' split
    all_goals simp
  unfold Code; omega
theorem chk4_code {t : Nm} (h : (chk4 t).2 ≠ 0) : Code (chk4 t).2 := by
  unfold chk4 at *
  split
  · exact .inr (.inr (.inr (.inr (.inr (.inr rfl)))))
  · rename_i hn
    rw [if_neg hn] at h
    rcases orE_cases (ff (rowCode t.rows) t.rows.length) (orE (chk t.cls) (orE (ff (clsCode t.cls) t.cls.length) (orE (ff (excCode t.exc) t.exc.length) (ff (thereCode t) t.rows.length)))) with e | e <;> rw [e] at h ⊢
    · obtain ⟨i, e⟩ := ff_code h
      rw [e] at h ⊢; exact row_code _ _ h
    · rcases orE_cases (chk t.cls) (orE (ff (clsCode t.cls) t.cls.length) (orE (ff (excCode t.exc) t.exc.length) (ff (thereCode t) t.rows.length))) with e | e <;> rw [e] at h ⊢
      · rcases chk_codes h with q | q | q <;> rw [q] <;> simp [Code]
      · rcases orE_cases (ff (clsCode t.cls) t.cls.length) (orE (ff (excCode t.exc) t.exc.length) (ff (thereCode t) t.rows.length)) with e | e <;> rw [e] at h ⊢
        · obtain ⟨i, e⟩ := ff_code h
          rw [e] at h ⊢; exact cls_code _ _ h
        · rcases orE_cases (ff (excCode t.exc) t.exc.length) (ff (thereCode t) t.rows.length) with e | e <;> rw [e] at h ⊢
          · obtain ⟨i, e⟩ := ff_code h
            rw [e] at h ⊢; exact exc_code _ _ h
          · obtain ⟨i, e⟩ := ff_code h
            rw [e] at h ⊢; exact there_code _ _ h
end Go.Proofs.YtlnehhfljjeifaaGreatDoor
namespace Go.Proofs.YtlnehhfljjeifaaGreatDoor
open Go.RowKit Go.Shelf

theorem chk8_code {n : Nm} {t : Nat → List Rg} (h : (chk8 n t).2 ≠ 0) : Code (chk8 n t).2 := by
  unfold chk8 at *
  rcases orE_cases (chk4 n) (chk7 t) with e | e <;> rw [e] at h ⊢
  · exact chk4_code h
  · rcases chk7_fault h with q | q | q | q <;> rw [q] <;> simp [Code]
set_option maxRecDepth 20000 in
set_option maxHeartbeats 8000000 in
theorem checks8_any (w : World) (p : Nat → Addr) (hge : Gl p w ∧ Et w) (ra la : Option Addr) (rcap ln lc : Nat) (vc ve : Value) (n : Nm) (a : Nat → Option Addr) (c : Nat → Nat) (t : Nat → List Rg) (hcap : n.rows.length ≤ rcap) (hR : Rows4 w (.slice ra n.rows.length rcap) n.rows) (hC : Tab w vc n.cls) (hE : Runes w ve n.exc) (hT : PT w a c t) (r : Int) (_hr : (Lit.int .i32 r).wf = true) :
    Calls Tryz.prog 5 #[TV (.slice ra n.rows.length rcap) vc ve a c t (.slice la ln lc), .int .i32 r] w fun e w' => e = .returned (.bool true) ∧ Below w.heap.size w w' := by
  obtain ⟨hg, het⟩ := hge
  obtain ⟨ca, ccap, rfl, -⟩ := id hC
  obtain ⟨ea, ecap, rfl, -⟩ := id hE
  obtain ⟨W0, hW0, hsz0, hb0, hB⟩ := tab_box w (.slice ra n.rows.length rcap) (.slice ca n.cls.length ccap) (.slice ea n.exc.length ecap) a c t (.slice la ln lc)
  have HA := Hid.mk' (awake8_any W0)
  have HGr : Hid (∀ W, Below w.heap.size w W → _) := fun W hb => great8_any ra ca ea la rcap ccap ecap ln lc n a c t W (hR.below hb) (hC.below hb) (hE.below hb)
  have HB : Hid (∀ W, Below W0.heap.size W0 W → Below w.heap.size w W ∧ TB W w.heap.size (.slice ra n.rows.length rcap) (.slice ca n.cls.length ccap) (.slice ea n.exc.length ecap) a c t (.slice la ln lc)) := fun W hb => ⟨hb0.trans (hb.mono hb0.size), hB.below hb (by omega)⟩
  unfold TV at HGr ⊢
  cases hgr : great8 n t
  rotate_left
  · rw [hgr] at HGr
    clear hgr hg het hR hC hE hT hb0 hB
    go_enter Tryz.func5, Tryz.ntmps5
    go_wp2_with fail
    refine HA.out.mono ?_
    rintro e w1 ⟨rfl, hb1⟩
    obtain ⟨hbw1, hB1⟩ := HB.out w1 hb1
    have xr := hB1.r
    have xk := hB1.k
    have xe := hB1.e
    have xl := hB1.l
    have x0 : w1.cell? ⟨w.heap.size, 3, none⟩ = some (.slice (a 0) (t 0).length (c 0)) := hB1.p 0 (by omega)
    have x1 : w1.cell? ⟨w.heap.size, 4, none⟩ = some (.slice (a 1) (t 1).length (c 1)) := hB1.p 1 (by omega)
    have x2 : w1.cell? ⟨w.heap.size, 5, none⟩ = some (.slice (a 2) (t 2).length (c 2)) := hB1.p 2 (by omega)
    have x3 : w1.cell? ⟨w.heap.size, 6, none⟩ = some (.slice (a 3) (t 3).length (c 3)) := hB1.p 3 (by omega)
    have x4 : w1.cell? ⟨w.heap.size, 7, none⟩ = some (.slice (a 4) (t 4).length (c 4)) := hB1.p 4 (by omega)
    have x5 : w1.cell? ⟨w.heap.size, 8, none⟩ = some (.slice (a 5) (t 5).length (c 5)) := hB1.p 5 (by omega)
    have x6 : w1.cell? ⟨w.heap.size, 9, none⟩ = some (.slice (a 6) (t 6).length (c 6)) := hB1.p 6 (by omega)
    have x7 : w1.cell? ⟨w.heap.size, 10, none⟩ = some (.slice (a 7) (t 7).length (c 7)) := hB1.p 7 (by omega)
    have x8 : w1.cell? ⟨w.heap.size, 11, none⟩ = some (.slice (a 8) (t 8).length (c 8)) := hB1.p 8 (by omega)
    have x9 : w1.cell? ⟨w.heap.size, 12, none⟩ = some (.slice (a 9) (t 9).length (c 9)) := hB1.p 9 (by omega)
    have x10 : w1.cell? ⟨w.heap.size, 13, none⟩ = some (.slice (a 10) (t 10).length (c 10)) := hB1.p 10 (by omega)
    go_wp2_with fail
    refine (HGr.out w1 hbw1).mono ?_
    rintro e w2 ⟨rfl, hb2⟩
    go_wp2
    go_ret
    exact ⟨rfl, hbw1.trans (hb2.mono hbw1.size)⟩
  rw [hgr] at HGr
  obtain ⟨hg4, hg7⟩ := great8_false hgr
  obtain ⟨hl1, hl2, hl3, hl4⟩ := great_false hg4
  have hl7 := great7_false hg7
  have HRF : Hid (∀ W, Below w.heap.size w W → _) := fun W hb => refCheck8_any ra ca ea la rcap ccap ecap ln lc n a c t W (hR.below hb) (hC.below hb) (hE.below hb) (hT.below hb) hl7 hl1 hl2 hl3 hl4
  have HCK : Hid (∀ W, Below w.heap.size w W → _) := fun W hb => check8_any ra ca ea la rcap ccap ecap ln lc n a c t W p (hg.below hb) hcap (hR.below hb) (hC.below hb) (hE.below hb) (hT.below hb) hl7 hl1 hl2 hl3 hl4
  have HCO : Hid ((chk8 n t).2 ≠ 0 → Code (chk8 n t).2) := chk8_code
  have HIF : Hid (∀ v B at_ c W, Below w.heap.size w W → Code c → Flt W v B at_ (p c) → _) := fun v B at_ c W hb hc hf => lawIs_fault v B at_ c W p (hg.below hb) (het.below hb) hc hf
  have HR1 : Hid (∀ W, _) := fun W => rule_any r W
  have HR2 : Hid (∀ W, _) := fun W => refRule_any r W
  unfold TV at HRF HCK
  generalize chk8 n t = x at HRF HCK HCO
  generalize ruleM r = y at HR1 HR2
  obtain ⟨x1, x2⟩ := x
  simp only [] at HRF HCK HCO
  clear hgr hg het hR hC hE hT hb0 hB hl1 hl2 hl3 hl4 hl7 hg4 hg7
  go_enter Tryz.func5, Tryz.ntmps5
  go_wp2_with fail
  refine HA.out.mono ?_
  rintro e w1 ⟨rfl, hb1⟩
  obtain ⟨hbw1, hB1⟩ := HB.out w1 hb1
  have xr := hB1.r
  have xk := hB1.k
  have xe := hB1.e
  have xl := hB1.l
  have x0 : w1.cell? ⟨w.heap.size, 3, none⟩ = some (.slice (a 0) (t 0).length (c 0)) := hB1.p 0 (by omega)
  have x1 : w1.cell? ⟨w.heap.size, 4, none⟩ = some (.slice (a 1) (t 1).length (c 1)) := hB1.p 1 (by omega)
  have x2 : w1.cell? ⟨w.heap.size, 5, none⟩ = some (.slice (a 2) (t 2).length (c 2)) := hB1.p 2 (by omega)
  have x3 : w1.cell? ⟨w.heap.size, 6, none⟩ = some (.slice (a 3) (t 3).length (c 3)) := hB1.p 3 (by omega)
  have x4 : w1.cell? ⟨w.heap.size, 7, none⟩ = some (.slice (a 4) (t 4).length (c 4)) := hB1.p 4 (by omega)
  have x5 : w1.cell? ⟨w.heap.size, 8, none⟩ = some (.slice (a 5) (t 5).length (c 5)) := hB1.p 5 (by omega)
  have x6 : w1.cell? ⟨w.heap.size, 9, none⟩ = some (.slice (a 6) (t 6).length (c 6)) := hB1.p 6 (by omega)
  have x7 : w1.cell? ⟨w.heap.size, 10, none⟩ = some (.slice (a 7) (t 7).length (c 7)) := hB1.p 7 (by omega)
  have x8 : w1.cell? ⟨w.heap.size, 11, none⟩ = some (.slice (a 8) (t 8).length (c 8)) := hB1.p 8 (by omega)
  have x9 : w1.cell? ⟨w.heap.size, 12, none⟩ = some (.slice (a 9) (t 9).length (c 9)) := hB1.p 9 (by omega)
  have x10 : w1.cell? ⟨w.heap.size, 13, none⟩ = some (.slice (a 10) (t 10).length (c 10)) := hB1.p 10 (by omega)
  clear hB1
  go_wp2_with fail
  refine (HGr.out w1 hbw1).mono ?_
  rintro e w2 ⟨rfl, hb2⟩
  have hb02 := hb1.trans (hb2.mono hb1.size)
  obtain ⟨hbw2, hB2⟩ := HB.out w2 hb02
  clear xr xk xe xl x0 x1 x2 x3 x4 x5 x6 x7 x8 x9 x10 hb1 hb2 hbw1
  have yr := hB2.r
  have yk := hB2.k
  have ye := hB2.e
  have yl := hB2.l
  have y0 : w2.cell? ⟨w.heap.size, 3, none⟩ = some (.slice (a 0) (t 0).length (c 0)) := hB2.p 0 (by omega)
  have y1 : w2.cell? ⟨w.heap.size, 4, none⟩ = some (.slice (a 1) (t 1).length (c 1)) := hB2.p 1 (by omega)
  have y2 : w2.cell? ⟨w.heap.size, 5, none⟩ = some (.slice (a 2) (t 2).length (c 2)) := hB2.p 2 (by omega)
  have y3 : w2.cell? ⟨w.heap.size, 6, none⟩ = some (.slice (a 3) (t 3).length (c 3)) := hB2.p 3 (by omega)
  have y4 : w2.cell? ⟨w.heap.size, 7, none⟩ = some (.slice (a 4) (t 4).length (c 4)) := hB2.p 4 (by omega)
  have y5 : w2.cell? ⟨w.heap.size, 8, none⟩ = some (.slice (a 5) (t 5).length (c 5)) := hB2.p 5 (by omega)
  have y6 : w2.cell? ⟨w.heap.size, 9, none⟩ = some (.slice (a 6) (t 6).length (c 6)) := hB2.p 6 (by omega)
  have y7 : w2.cell? ⟨w.heap.size, 10, none⟩ = some (.slice (a 7) (t 7).length (c 7)) := hB2.p 7 (by omega)
  have y8 : w2.cell? ⟨w.heap.size, 11, none⟩ = some (.slice (a 8) (t 8).length (c 8)) := hB2.p 8 (by omega)
  have y9 : w2.cell? ⟨w.heap.size, 12, none⟩ = some (.slice (a 9) (t 9).length (c 9)) := hB2.p 9 (by omega)
  have y10 : w2.cell? ⟨w.heap.size, 13, none⟩ = some (.slice (a 10) (t 10).length (c 10)) := hB2.p 10 (by omega)
  clear hB2
  go_wp2_with fail
  refine (HRF.out w2 hbw2).mono ?_
  rintro e w3 ⟨rfl, hb3⟩
  have hb03 := hb02.trans (hb3.mono hb02.size)
  obtain ⟨hbw3, hB3⟩ := HB.out w3 hb03
  clear yr yk ye yl y0 y1 y2 y3 y4 y5 y6 y7 y8 y9 y10 hb3 hbw2 hb02
  have zr := hB3.r
  have zk := hB3.k
  have ze := hB3.e
  have zl := hB3.l
  have z0 : w3.cell? ⟨w.heap.size, 3, none⟩ = some (.slice (a 0) (t 0).length (c 0)) := hB3.p 0 (by omega)
  have z1 : w3.cell? ⟨w.heap.size, 4, none⟩ = some (.slice (a 1) (t 1).length (c 1)) := hB3.p 1 (by omega)
  have z2 : w3.cell? ⟨w.heap.size, 5, none⟩ = some (.slice (a 2) (t 2).length (c 2)) := hB3.p 2 (by omega)
  have z3 : w3.cell? ⟨w.heap.size, 6, none⟩ = some (.slice (a 3) (t 3).length (c 3)) := hB3.p 3 (by omega)
  have z4 : w3.cell? ⟨w.heap.size, 7, none⟩ = some (.slice (a 4) (t 4).length (c 4)) := hB3.p 4 (by omega)
  have z5 : w3.cell? ⟨w.heap.size, 8, none⟩ = some (.slice (a 5) (t 5).length (c 5)) := hB3.p 5 (by omega)
  have z6 : w3.cell? ⟨w.heap.size, 9, none⟩ = some (.slice (a 6) (t 6).length (c 6)) := hB3.p 6 (by omega)
  have z7 : w3.cell? ⟨w.heap.size, 10, none⟩ = some (.slice (a 7) (t 7).length (c 7)) := hB3.p 7 (by omega)
  have z8 : w3.cell? ⟨w.heap.size, 11, none⟩ = some (.slice (a 8) (t 8).length (c 8)) := hB3.p 8 (by omega)
  have z9 : w3.cell? ⟨w.heap.size, 12, none⟩ = some (.slice (a 9) (t 9).length (c 9)) := hB3.p 9 (by omega)
  have z10 : w3.cell? ⟨w.heap.size, 13, none⟩ = some (.slice (a 10) (t 10).length (c 10)) := hB3.p 10 (by omega)
  clear hB3
  go_wp2_with fail
  refine (HCK.out w3 hbw3).mono ?_
  rintro e w4 ⟨fv, rfl, hsay, hb4⟩
  have hbw4 := hbw3.trans (hb4.mono hbw3.size)
  clear zr zk ze zl z0 z1 z2 z3 z4 z5 z6 z7 z8 z9 z10 hb4
  rcases hsay with ⟨hz, rfl⟩ | ⟨hnz, hf⟩
  · obtain ⟨rfl, rfl⟩ := Prod.mk.inj hz
    go_wp2_with fail
    refine (lawIs_none 0 w4).mono ?_
    rintro e w5 ⟨rfl, rfl⟩
    go_wp2_with fail
    refine (HR1.out w4).mono ?_
    rintro e w6 ⟨rfl, rfl⟩
    go_wp2_with fail
    refine (HR2.out w4).mono ?_
    rintro e w7 ⟨rfl, rfl⟩
    go_wp2
    go_ret
    exact ⟨ret_bool (by first | rfl | simp), hbw4⟩
  · have hI := HIF.out fv _ x1 x2 w4 hbw4 (HCO.out hnz) hf
    have HI := Hid.mk' hI
    obtain ⟨fb, -, rfl, -, -⟩ := hf
    clear hnz hI
    go_wp2_with fail
    refine HI.out.mono ?_
    rintro e w5 ⟨rfl, hb5⟩
    have hbw5 := hbw4.trans (hb5.mono hbw4.size)
    go_wp2_with fail
    refine (HR1.out w5).mono ?_
    rintro e w6 ⟨rfl, rfl⟩
    go_wp2_with fail
    refine (HR2.out w5).mono ?_
    rintro e w7 ⟨rfl, rfl⟩
    go_wp2
    go_ret
    exact ⟨ret_bool (by first | rfl | simp), hbw5⟩
end Go.Proofs.YtlnehhfljjeifaaGreatDoor

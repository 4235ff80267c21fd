/-
  What is proved here: that DecompChecks answers true at every norm.
-/
import Derived.Test.YtojpkkbagcahdaaDoorE3
import Derived.Test.YtojpkkbagcahdaaDoorE5
import Derived.Test.YtojpkkbagcahdaaDoorB5
import Derived.Test.YtojpkkbagcahdaaDoorHB
namespace Go.Proofs.YtojpkkbagcahdaaDoor
open Go.RowKit

theorem ff_code {f : Nat → Nat} {n : Nat} (h : (ff f n).2 ≠ 0) : ∃ i, (ff f n).2 = f i := by
  obtain ⟨k, _, _, _, e⟩ := ff_ne f n h
  exact ⟨k, by rw [e]⟩
theorem chk_codes {l : List Rg} (h : (chk l).2 ≠ 0) : (chk l).2 = 4 ∨ (chk l).2 = 6 ∨ (chk l).2 = 18 := by
  unfold chk at *
  cases hf : faultsM l with
  | nil => rw [hf] at h; exact absurd rfl h
  | cons x s =>
    have hx : x ∈ faultsM l := by rw [hf]; simp
    unfold faultsM at hx
    split at hx
    · simp at hx; subst hx; exact .inr (.inr rfl)
    · unfold faultsTo at hx
      obtain ⟨i, hi, rfl⟩ := List.mem_map.1 hx
      have := (List.mem_filter.1 hi).2
      show codeAt l i = 4 ∨ codeAt l i = 6 ∨ codeAt l i = 18
      have hc : codeAt l i ≠ 0 := by simpa using this
      unfold codeAt at *
      split
      · exact .inl rfl
      · split
        · exact .inr (.inl rfl)
        · rename_i h1 h2; rw [if_neg h1, if_neg h2] at hc; exact absurd rfl hc
theorem orE_cases (a b : Nat × Nat) : orE a b = a ∨ orE a b = b := by
  by_cases h : a.2 = 0
  · exact .inr (orE_r h)
  · exact .inl (orE_l h)
theorem row_code (l : List Rw) (i : Nat) (h : rowCode l i ≠ 0) : Code (rowCode l i) := by
  have q : rowCode l i = 4 ∨ rowCode l i = 6 ∨ rowCode l i = 5 ∨ rowCode l i = 9 ∨ rowCode l i = 0 := by
    unfold rowCode
    repeat' split
    all_goals simp
  unfold Code; omega
theorem cls_code (l : List Rg) (i : Nat) (h : clsCode l i ≠ 0) : Code (clsCode l i) := by
  have q : clsCode l i = 0 ∨ clsCode l i = 17 := by
    unfold clsCode
    repeat' split
    all_goals simp
  unfold Code; omega
theorem exc_code (l : List Int) (i : Nat) (h : excCode l i ≠ 0) : Code (excCode l i) := by
  have q : excCode l i = 4 ∨ excCode l i = 6 ∨ excCode l i = 0 := by
    unfold excCode
    repeat' split
    all_goals simp
  unfold Code; omega
theorem there_code (t : Nm) (i : Nat) (h : thereCode t i ≠ 0) : Code (thereCode t i) := by
  have q : thereCode t i = 7 ∨ thereCode t i = 0 := by
    unfold thereCode
    repeat' split
    all_goals simp
  unfold Code; omega
theorem chk4_code {t : Nm} (h : (chk4 t).2 ≠ 0) : Code (chk4 t).2 := by
  unfold chk4 at *
  split
  · exact .inr (.inr (.inr (.inr (.inr (.inr rfl)))))
  · rename_i hn
    rw [if_neg hn] at h
    rcases orE_cases (ff (rowCode t.rows) t.rows.length) (orE (chk t.cls) (orE (ff (clsCode t.cls) t.cls.length) (orE (ff (excCode t.exc) t.exc.length) (ff (thereCode t) t.rows.length)))) with e | e <;> rw [e] at h ⊢
    · obtain ⟨i, e⟩ := ff_code h
      rw [e] at h ⊢; exact row_code _ _ h
    · rcases orE_cases (chk t.cls) (orE (ff (clsCode t.cls) t.cls.length) (orE (ff (excCode t.exc) t.exc.length) (ff (thereCode t) t.rows.length))) with e | e <;> rw [e] at h ⊢
      · rcases chk_codes h with q | q | q <;> rw [q] <;> simp [Code]
      · rcases orE_cases (ff (clsCode t.cls) t.cls.length) (orE (ff (excCode t.exc) t.exc.length) (ff (thereCode t) t.rows.length)) with e | e <;> rw [e] at h ⊢
        · obtain ⟨i, e⟩ := ff_code h
          rw [e] at h ⊢; exact cls_code _ _ h
        · rcases orE_cases (ff (excCode t.exc) t.exc.length) (ff (thereCode t) t.rows.length) with e | e <;> rw [e] at h ⊢
          · obtain ⟨i, e⟩ := ff_code h
            rw [e] at h ⊢; exact exc_code _ _ h
          · obtain ⟨i, e⟩ := ff_code h
            rw [e] at h ⊢; exact there_code _ _ h
set_option maxRecDepth 20000 in
set_option maxHeartbeats 8000000 in
theorem checks_any (w : World) (p : Nat → Addr) (hge : Gl p w ∧ Et w) (a : Option Addr) (cap : Nat) (vc ve : Value) (t : Nm) (hcap : t.rows.length ≤ cap) (hR : Rows4 w (.slice a t.rows.length cap) t.rows) (hC : Tab w vc t.cls) (hE : Runes w ve t.exc) :
    Calls Tryd.prog 3 #[.agg #[.slice a t.rows.length cap, vc, ve]] w fun e w' => e = .returned (.bool true) ∧ Below w.heap.size w w' := by
  obtain ⟨hg, het⟩ := hge
  obtain ⟨W0, hW0, hsz, hb0, e0, e1, e2⟩ := norm_box w (.slice a t.rows.length cap) vc ve
  have HA := Hid.mk' (awake4_any W0 p (hg.below hb0))
  have HGr : Hid (∀ W, Below w.heap.size w W → _) := fun W hb => great_any (.slice a t.rows.length cap) vc ve t W (hR.below hb) (hC.below hb) (hE.below hb)
  obtain ⟨ca, ccap, rfl, -⟩ := id hC
  obtain ⟨ea, ecap, rfl, -⟩ := id hE
  have HEE : Hid (∀ W, Below W0.heap.size W0 W → (W.cell? ⟨w.heap.size, 0, none⟩ = some (.slice a t.rows.length cap) ∧ W.cell? ⟨w.heap.size, 1, none⟩ = some (.slice ca t.cls.length ccap) ∧ W.cell? ⟨w.heap.size, 2, none⟩ = some (.slice ea t.exc.length ecap)) ∧ Below w.heap.size w W) := fun W hb => ⟨⟨(hb.cell (lt_of_cell e0)).trans e0, (hb.cell (lt_of_cell e1)).trans e1, (hb.cell (lt_of_cell e2)).trans e2⟩, hb0.trans (hb.mono hb0.size)⟩
  cases hgr : greatM t
  rotate_left
  · rw [hgr] at HGr
    clear hgr hg het hR hC hE
    go_enter Tryd.func3, Tryd.ntmps3
    go_wp2_with fail
    refine HA.out.mono ?_
    rintro e w1 ⟨rfl, hb1⟩
    obtain ⟨⟨x0, x1, x2⟩, hbw1⟩ := HEE.out w1 hb1
    go_wp2_with fail
    refine (HGr.out w1 hbw1).mono ?_
    rintro e w2 ⟨rfl, hb2⟩
    go_wp2
    go_ret
    exact ⟨rfl, hbw1.trans (hb2.mono hbw1.size)⟩
  obtain ⟨hl1, hl2, hl3, hl4⟩ := great_false hgr
  rw [hgr] at HGr
  have HR : Hid (∀ W, Below w.heap.size w W → _) := fun W hb => refCheck4_any (.slice a t.rows.length cap) (.slice ca t.cls.length ccap) (.slice ea t.exc.length ecap) t W (hR.below hb) (hC.below hb) (hE.below hb) (by omega) (by omega) (by omega) (fun i hi => by have := hl4 i hi; omega)
  have HK : Hid (∀ W, Below w.heap.size w W → _) := fun W hb => check4_any a cap (.slice ca t.cls.length ccap) (.slice ea t.exc.length ecap) t hcap W p (hg.below hb) (hR.below hb) (hC.below hb) (hE.below hb) (by omega) (by omega) (by omega) (fun i hi => by have := hl4 i hi; omega) (fun _ B => sorts_any t.rows.length B (by omega))
  have HCO : Hid ((chk4 t).2 ≠ 0 → Code (chk4 t).2) := chk4_code
  have HIF : Hid (∀ v B at_ c W, Below w.heap.size w W → Code c → Flt W v B at_ (p c) → _) := fun v B at_ c W hb hc hf => lawIs_fault v B at_ c W p (hg.below hb) (het.below hb) hc hf
  generalize chk4 t = x at HR HK HCO
  obtain ⟨x1, x2⟩ := x
  simp only [] at HR HK HCO
  clear hgr hg het hR hC hE hl4
  go_enter Tryd.func3, Tryd.ntmps3
  go_wp2_with fail
  refine HA.out.mono ?_
  rintro e w1 ⟨rfl, hb1⟩
  obtain ⟨⟨x0, x1', x2'⟩, hbw1⟩ := HEE.out w1 hb1
  go_wp2_with fail
  refine (HGr.out w1 hbw1).mono ?_
  rintro e w2 ⟨rfl, hb2⟩
  have hb02 := hb1.trans (hb2.mono hb1.size)
  obtain ⟨⟨y0, y1, y2⟩, hbw2⟩ := HEE.out w2 hb02
  clear x0 x1' x2' e0 e1 e2
  go_wp2_with fail
  refine (HR.out w2 hbw2).mono ?_
  rintro e w3 ⟨rfl, hb3⟩
  have hb03 := hb02.trans (hb3.mono hb02.size)
  obtain ⟨⟨z0, z1, z2⟩, hbw3⟩ := HEE.out w3 hb03
  clear y0 y1 y2
  go_wp2_with fail
  refine (HK.out w3 hbw3).mono ?_
  rintro e w4 ⟨fv, rfl, hsay, hb4⟩
  have hbw4 := hbw3.trans (hb4.mono hbw3.size)
  rcases hsay.nil with ⟨hz, rfl⟩ | ⟨hnz, hf⟩
  · obtain ⟨rfl, rfl⟩ := Prod.mk.inj hz
    clear hsay
    go_wp2_with fail
    refine (lawIs_none 0 w4).mono ?_
    rintro e w5 ⟨rfl, rfl⟩
    go_wp2
    go_ret
    exact ⟨rfl, hbw4⟩
  · have hI := HIF.out fv _ x1 x2 w4 hbw4 (HCO.out hnz) hf
    have HI := Hid.mk' hI
    obtain ⟨fb, -, rfl, -, -⟩ := hf
    clear hsay hnz hI
    go_wp2_with fail
    refine HI.out.mono ?_
    rintro e w5 ⟨rfl, hb5⟩
    go_wp2
    go_ret
    exact ⟨rfl, hbw4.trans (hb5.mono hbw4.size)⟩
end Go.Proofs.YtojpkkbagcahdaaDoor

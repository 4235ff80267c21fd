/-
  What is proved here: what contexts' Check, the reference's, and the law's Great, of layer 8 answer, of any tables.
-/
import Derived.Test.YtlnehhfljjeifaaDoorLD
import Derived.Test.YtlnehhfljjeifaaDoorLF
import Derived.Test.YtlnehhfljjeifaaDoorL6
import Derived.Test.YtlnehhfljjeifaaDoorHB
import Derived.Test.YtlnehhfljjeifaaDoorB3
namespace Go.Proofs.YtlnehhfljjeifaaDoor
open Go.RowKit Go.Shelf

def great8 (n : Nm) (t : Nat → List Rg) : Bool := greatM n || great7 t
/-- WHAT IS WRONG WITH TABLES FIRST -/
def chk8 (n : Nm) (t : Nat → List Rg) : Nat × Nat := orE (chk4 n) (chk7 t)
set_option maxRecDepth 20000 in
set_option maxHeartbeats 4000000 in
theorem great8_any (ra ca ea la : Option Addr) (rcap ccap ecap ln lc : Nat) (n : Nm) (a : Nat → Option Addr) (c : Nat → Nat) (t : Nat → List Rg) (w : World) (hR : Rows4 w (.slice ra n.rows.length rcap) n.rows) (hC : Tab w (.slice ca n.cls.length ccap) n.cls) (hE : Runes w (.slice ea n.exc.length ecap) n.exc) :
    Calls Tryd.prog 6 #[TV (.slice ra n.rows.length rcap) (.slice ca n.cls.length ccap) (.slice ea n.exc.length ecap) a c t (.slice la ln lc)] w fun e w' => e = .returned (.bool (great8 n t)) ∧ Below w.heap.size w w' := by
  obtain ⟨W0, hW0, hsz0, hb0, hB⟩ := tab_box w (.slice ra n.rows.length rcap) (.slice ca n.cls.length ccap) (.slice ea n.exc.length ecap) a c t (.slice la ln lc)
  have e0 : W0.cell? ⟨w.heap.size, 3, none⟩ = some (.slice (a 0) (t 0).length (c 0)) := hB.p 0 (by omega)
  have e1 : W0.cell? ⟨w.heap.size, 4, none⟩ = some (.slice (a 1) (t 1).length (c 1)) := hB.p 1 (by omega)
  have e2 : W0.cell? ⟨w.heap.size, 5, none⟩ = some (.slice (a 2) (t 2).length (c 2)) := hB.p 2 (by omega)
  have e3 : W0.cell? ⟨w.heap.size, 6, none⟩ = some (.slice (a 3) (t 3).length (c 3)) := hB.p 3 (by omega)
  have e4 : W0.cell? ⟨w.heap.size, 7, none⟩ = some (.slice (a 4) (t 4).length (c 4)) := hB.p 4 (by omega)
  have e5 : W0.cell? ⟨w.heap.size, 8, none⟩ = some (.slice (a 5) (t 5).length (c 5)) := hB.p 5 (by omega)
  have e6 : W0.cell? ⟨w.heap.size, 9, none⟩ = some (.slice (a 6) (t 6).length (c 6)) := hB.p 6 (by omega)
  have e7 : W0.cell? ⟨w.heap.size, 10, none⟩ = some (.slice (a 7) (t 7).length (c 7)) := hB.p 7 (by omega)
  have e8 : W0.cell? ⟨w.heap.size, 11, none⟩ = some (.slice (a 8) (t 8).length (c 8)) := hB.p 8 (by omega)
  have e9 : W0.cell? ⟨w.heap.size, 12, none⟩ = some (.slice (a 9) (t 9).length (c 9)) := hB.p 9 (by omega)
  have e10 : W0.cell? ⟨w.heap.size, 13, none⟩ = some (.slice (a 10) (t 10).length (c 10)) := hB.p 10 (by omega)
  have er := hB.r
  have ek := hB.k
  have ee := hB.e
  have el := hB.l
  have HG4 := Hid.mk' (great_any (.slice ra n.rows.length rcap) (.slice ca n.cls.length ccap) (.slice ea n.exc.length ecap) n W0 (hR.below hb0) (hC.below hb0) (hE.below hb0))
  have HGP : Hid (∀ W, _) := fun W => greatP_any a c t W
  have HB : Hid (∀ W, Below W0.heap.size W0 W → Below w.heap.size w W ∧ TB W w.heap.size (.slice ra n.rows.length rcap) (.slice ca n.cls.length ccap) (.slice ea n.exc.length ecap) a c t (.slice la ln lc)) := fun W hb => ⟨hb0.trans (hb.mono hb0.size), hB.below hb (by omega)⟩
  unfold TV
  unfold PV at HGP
  unfold great8
  generalize great7 t = g7 at *
  clear hR hC hE hb0 hB
  cases hg : greatM n
  · rw [hg] at HG4
    clear hg
    go_enter Tryd.func6, Tryd.ntmps6
    go_wp2_with fail
    refine HG4.out.mono ?_
    rintro e w1 ⟨rfl, hb1⟩
    obtain ⟨hbw1, hB1⟩ := HB.out w1 hb1
    clear e0 e1 e2 e3 e4 e5 e6 e7 e8 e9 e10 er ek ee el hb1
    have x0 : w1.cell? ⟨w.heap.size, 3, none⟩ = some (.slice (a 0) (t 0).length (c 0)) := hB1.p 0 (by omega)
    have x1 : w1.cell? ⟨w.heap.size, 4, none⟩ = some (.slice (a 1) (t 1).length (c 1)) := hB1.p 1 (by omega)
    have x2 : w1.cell? ⟨w.heap.size, 5, none⟩ = some (.slice (a 2) (t 2).length (c 2)) := hB1.p 2 (by omega)
    have x3 : w1.cell? ⟨w.heap.size, 6, none⟩ = some (.slice (a 3) (t 3).length (c 3)) := hB1.p 3 (by omega)
    have x4 : w1.cell? ⟨w.heap.size, 7, none⟩ = some (.slice (a 4) (t 4).length (c 4)) := hB1.p 4 (by omega)
    have x5 : w1.cell? ⟨w.heap.size, 8, none⟩ = some (.slice (a 5) (t 5).length (c 5)) := hB1.p 5 (by omega)
    have x6 : w1.cell? ⟨w.heap.size, 9, none⟩ = some (.slice (a 6) (t 6).length (c 6)) := hB1.p 6 (by omega)
    have x7 : w1.cell? ⟨w.heap.size, 10, none⟩ = some (.slice (a 7) (t 7).length (c 7)) := hB1.p 7 (by omega)
    have x8 : w1.cell? ⟨w.heap.size, 11, none⟩ = some (.slice (a 8) (t 8).length (c 8)) := hB1.p 8 (by omega)
    have x9 : w1.cell? ⟨w.heap.size, 12, none⟩ = some (.slice (a 9) (t 9).length (c 9)) := hB1.p 9 (by omega)
    have x10 : w1.cell? ⟨w.heap.size, 13, none⟩ = some (.slice (a 10) (t 10).length (c 10)) := hB1.p 10 (by omega)
    clear hB1 HB
    go_wp2_with fail
    refine (HGP.out w1).mono ?_
    rintro e w2 ⟨rfl, hb2⟩
    go_wp2
    go_ret
    exact ⟨rfl, hbw1.trans (hb2.mono hbw1.size)⟩
  · rw [hg] at HG4
    clear hg
    go_enter Tryd.func6, Tryd.ntmps6
    go_wp2_with fail
    refine HG4.out.mono ?_
    rintro e w1 ⟨rfl, hb1⟩
    obtain ⟨hbw1, hB1⟩ := HB.out w1 hb1
    clear e0 e1 e2 e3 e4 e5 e6 e7 e8 e9 e10 er ek ee el hb1 hB1 HB
    go_wp2
    go_ret
    exact ⟨rfl, hbw1⟩
theorem great8_false {n : Nm} {t : Nat → List Rg} (h : great8 n t = false) : greatM n = false ∧ great7 t = false := by
  unfold great8 at h; exact Bool.or_eq_false_iff.1 h
theorem ret_two8 {a b : Nat × Nat} (h : a = b) : Ending.returned (.tuple #[.int .i64 b.1, .int .i64 b.2]) = .returned (.tuple #[.int .i64 a.1, .int .i64 a.2]) := by rw [h]
set_option maxRecDepth 20000 in
set_option maxHeartbeats 4000000 in
theorem check8_any (ra ca ea la : Option Addr) (rcap ccap ecap ln lc : Nat) (n : Nm) (a : Nat → Option Addr) (c : Nat → Nat) (t : Nat → List Rg) (w : World) (p : Nat → Addr) (hg : Gl p w) (hcap : n.rows.length ≤ rcap) (hR : Rows4 w (.slice ra n.rows.length rcap) n.rows) (hC : Tab w (.slice ca n.cls.length ccap) n.cls) (hE : Runes w (.slice ea n.exc.length ecap) n.exc) (hT : PT w a c t) (hl : ∀ i, i < 11 → (t i).length ≤ 40) (hlr : n.rows.length ≤ 40) (hlc : n.cls.length ≤ 40) (hle : n.exc.length ≤ 40) (hto : ∀ i, i < n.rows.length → (rw_ n.rows i).to.length ≤ 4) :
    Calls Tryd.prog 7 #[TV (.slice ra n.rows.length rcap) (.slice ca n.cls.length ccap) (.slice ea n.exc.length ecap) a c t (.slice la ln lc)] w fun e w' => ∃ fv, e = .returned fv ∧ Says w' fv w.heap.size p (chk8 n t) ∧ Below w.heap.size w w' := by
  obtain ⟨W0, hW0, hsz0, hb0, hB⟩ := tab_box w (.slice ra n.rows.length rcap) (.slice ca n.cls.length ccap) (.slice ea n.exc.length ecap) a c t (.slice la ln lc)
  have e0 : W0.cell? ⟨w.heap.size, 3, none⟩ = some (.slice (a 0) (t 0).length (c 0)) := hB.p 0 (by omega)
  have e1 : W0.cell? ⟨w.heap.size, 4, none⟩ = some (.slice (a 1) (t 1).length (c 1)) := hB.p 1 (by omega)
  have e2 : W0.cell? ⟨w.heap.size, 5, none⟩ = some (.slice (a 2) (t 2).length (c 2)) := hB.p 2 (by omega)
  have e3 : W0.cell? ⟨w.heap.size, 6, none⟩ = some (.slice (a 3) (t 3).length (c 3)) := hB.p 3 (by omega)
  have e4 : W0.cell? ⟨w.heap.size, 7, none⟩ = some (.slice (a 4) (t 4).length (c 4)) := hB.p 4 (by omega)
  have e5 : W0.cell? ⟨w.heap.size, 8, none⟩ = some (.slice (a 5) (t 5).length (c 5)) := hB.p 5 (by omega)
  have e6 : W0.cell? ⟨w.heap.size, 9, none⟩ = some (.slice (a 6) (t 6).length (c 6)) := hB.p 6 (by omega)
  have e7 : W0.cell? ⟨w.heap.size, 10, none⟩ = some (.slice (a 7) (t 7).length (c 7)) := hB.p 7 (by omega)
  have e8 : W0.cell? ⟨w.heap.size, 11, none⟩ = some (.slice (a 8) (t 8).length (c 8)) := hB.p 8 (by omega)
  have e9 : W0.cell? ⟨w.heap.size, 12, none⟩ = some (.slice (a 9) (t 9).length (c 9)) := hB.p 9 (by omega)
  have e10 : W0.cell? ⟨w.heap.size, 13, none⟩ = some (.slice (a 10) (t 10).length (c 10)) := hB.p 10 (by omega)
  have er := hB.r
  have ek := hB.k
  have ee := hB.e
  have el := hB.l
  have H4 := Hid.mk' (check4_any ra rcap (.slice ca n.cls.length ccap) (.slice ea n.exc.length ecap) n hcap W0 p (hg.below hb0) (hR.below hb0) (hC.below hb0) (hE.below hb0) (by omega) (by omega) (by omega) (fun i hi => by have := hto i hi; omega) (fun _ B => sorts_any n.rows.length B (by omega)))
  have H7 : Hid (∀ W, Below w.heap.size w W → _) := fun W hb => check7_any a c t W p (hg.below hb) (hT.below hb) (fun i hi => by have := hl i hi; omega)
  have HB : Hid (∀ W, Below W0.heap.size W0 W → Below w.heap.size w W ∧ TB W w.heap.size (.slice ra n.rows.length rcap) (.slice ca n.cls.length ccap) (.slice ea n.exc.length ecap) a c t (.slice la ln lc)) := fun W hb => ⟨hb0.trans (hb.mono hb0.size), hB.below hb (by omega)⟩
  have HE1 : Hid ((chk4 n).2 ≠ 0 → chk8 n t = chk4 n) := fun h => orE_l h
  have HE2 : Hid ((chk4 n).2 = 0 → chk8 n t = chk7 t) := fun h => orE_r h
  unfold TV
  unfold PV at H7
  generalize chk8 n t = x8 at *
  generalize chk7 t = x7 at *
  generalize chk4 n = x4 at *
  clear hR hC hE hb0 hB hT hl hlr hlc hle hto hg
  go_enter Tryd.func7, Tryd.ntmps7
  go_wp2_with fail
  refine H4.out.mono ?_
  rintro e w1 ⟨fv, rfl, hsay, hb1⟩
  obtain ⟨hbw1, hB1⟩ := HB.out w1 hb1
  clear e0 e1 e2 e3 e4 e5 e6 e7 e8 e9 e10 er ek ee el hb1 H4
  rcases hsay with ⟨hz, rfl⟩ | ⟨hnz, hf⟩
  · have hres := HE2.out (by rw [hz])
    subst hres
    clear hz HE1 HE2
    have x0 : w1.cell? ⟨w.heap.size, 3, none⟩ = some (.slice (a 0) (t 0).length (c 0)) := hB1.p 0 (by omega)
    have x1 : w1.cell? ⟨w.heap.size, 4, none⟩ = some (.slice (a 1) (t 1).length (c 1)) := hB1.p 1 (by omega)
    have x2 : w1.cell? ⟨w.heap.size, 5, none⟩ = some (.slice (a 2) (t 2).length (c 2)) := hB1.p 2 (by omega)
    have x3 : w1.cell? ⟨w.heap.size, 6, none⟩ = some (.slice (a 3) (t 3).length (c 3)) := hB1.p 3 (by omega)
    have x4 : w1.cell? ⟨w.heap.size, 7, none⟩ = some (.slice (a 4) (t 4).length (c 4)) := hB1.p 4 (by omega)
    have x5 : w1.cell? ⟨w.heap.size, 8, none⟩ = some (.slice (a 5) (t 5).length (c 5)) := hB1.p 5 (by omega)
    have x6 : w1.cell? ⟨w.heap.size, 9, none⟩ = some (.slice (a 6) (t 6).length (c 6)) := hB1.p 6 (by omega)
    have x7 : w1.cell? ⟨w.heap.size, 10, none⟩ = some (.slice (a 7) (t 7).length (c 7)) := hB1.p 7 (by omega)
    have x8 : w1.cell? ⟨w.heap.size, 11, none⟩ = some (.slice (a 8) (t 8).length (c 8)) := hB1.p 8 (by omega)
    have x9 : w1.cell? ⟨w.heap.size, 12, none⟩ = some (.slice (a 9) (t 9).length (c 9)) := hB1.p 9 (by omega)
    have x10 : w1.cell? ⟨w.heap.size, 13, none⟩ = some (.slice (a 10) (t 10).length (c 10)) := hB1.p 10 (by omega)
    clear hB1 HB
    go_wp2_with fail
    refine (H7.out w1 hbw1).mono ?_
    rintro e w2 ⟨fv2, rfl, hsay2, hb2⟩
    have HS2 := Hid.mk' hsay2
    rcases hsay2 with ⟨-, rfl⟩ | ⟨-, hf2⟩
    · go_wp2
      go_ret
      refine ⟨_, rfl, ?_, hbw1.trans (hb2.mono hbw1.size)⟩
      rcases HS2.out with ⟨q1, q2⟩ | ⟨q1, q2⟩
      · exact .inl ⟨q1, q2⟩
      · exact .inr ⟨q1, q2.weaken hbw1.size rfl⟩
    · obtain ⟨b, -, rfl, -, -⟩ := hf2
      go_wp2
      go_ret
      refine ⟨_, rfl, ?_, hbw1.trans (hb2.mono hbw1.size)⟩
      rcases HS2.out with ⟨q1, q2⟩ | ⟨q1, q2⟩
      · exact .inl ⟨q1, q2⟩
      · exact .inr ⟨q1, q2.weaken hbw1.size rfl⟩
  · have hres := HE1.out hnz
    subst hres
    have HF := Hid.mk' hf
    have HNZ := Hid.mk' hnz
    obtain ⟨b, -, rfl, -, -⟩ := hf
    clear hnz HE1 HE2 hB1 HB
    go_wp2
    go_ret
    exact ⟨_, rfl, .inr ⟨HNZ.out, HF.out.weaken (by omega) rfl⟩, hbw1⟩
end Go.Proofs.YtlnehhfljjeifaaDoor

/-
  What is proved here: what chainOf answers.
-/
import Derived.Test.YtlnehhfljjeifaaDoorA6
namespace Go.Proofs.YtlnehhfljjeifaaDoor
open Go.RowKit

/-- how many rows the chain of the row number i has -/
def chainAt (l : List Rw) (i : Nat) : Nat := 1 + chainIn l i (rw_ l i).to0
set_option maxHeartbeats 2000000 in
theorem chainOf_any (a : Option Addr) (cap : Nat) (l : List Rw) (i g cap6 : Nat) (w : World) (hT : Rows4 w (.slice a l.length cap) l) (hcap : l.length ≤ cap) (hl : l.length ≤ 2000) (hi : i < l.length) (hr : RiseR l i) (hto : 0 < (rw_ l i).to.length)
    (hch : ∀ j, j < i → w.cell? ⟨g, j, none⟩ = some (.int .i64 (chainAt l j))) (hbd : ∀ j, j < i → chainAt l j ≤ 8) :
    Calls Tryd.prog 37 #[.slice a l.length cap, .slice (some ⟨g, 0, none⟩) l.length cap6, .int .i64 i] w fun e w' => e = .returned (.int .i64 (chainAt l i)) ∧ Below w.heap.size w w' := by
  have HK := Hid.mk' (seekPre_any a cap l i (rw_ l i).to0 w.drew (hT.below (Below.refl _ _).drew) (by omega) (by omega) hr)
  obtain ⟨a', cap', e', hTj⟩ := hT
  obtain ⟨rfl, rfl⟩ : a = a' ∧ cap = cap' := by simpa using e'
  obtain ⟨b, off, tv, rfl, -, d1, ta, tcap, rfl, hR⟩ := hTj i hi
  obtain ⟨tb, toff, rfl, c0⟩ := hR 0 hto
  rw [Nat.add_zero] at c0
  have h00 : (rw_ l i).to.getD 0 0 = (rw_ l i).to0 := rfl
  rw [h00] at c0
  have hic : (i : Int) ≤ (cap : Int) := by omega
  have hil : (i : Int) < (l.length : Int) := by omega
  have htl : (0 : Int) < ((rw_ l i).to.length : Int) := by omega
  have HX : Hid (∀ x, Sought i (fun j => (rw_ l j).fr) (rw_ l i).to0 x → (x = -1 ∧ chainAt l i = 1) ∨ ∃ j : Nat, x = j ∧ j < i ∧ chainAt l i = 1 + chainAt l j) := fun x h => by
    rcases h with ⟨j, rfl, hj, e⟩ | ⟨rfl, h⟩
    · exact .inr ⟨j, rfl, hj, by unfold chainAt; rw [chain_hit l i j _ hj hr e]⟩
    · exact .inl ⟨rfl, by unfold chainAt; rw [chain_miss l i _ h]⟩
  have HH := Hid.mk' hch
  have HBD := Hid.mk' hbd
  clear hTj hR e' h00 hr hch hbd
  generalize (rw_ l i).to.length = tn at *
  generalize (rw_ l i).to0 = t0 at *
  generalize chainAt l i = res at *
  go_enter Tryd.func37, Tryd.ntmps37
  go_wp2
  go_region_held3 (fun w' => w'.cell? ⟨b, off + i * 2 + 1, none⟩ = some (.slice (some ⟨tb, toff, none⟩) tn tcap) ∧ w'.cell? ⟨tb, toff, none⟩ = some (.int .i32 t0)) (first | exact ⟨d1, c0⟩ | trivial | go_keep) ((go_at_call 57; refine HK.out.mono ?_; rintro e w2 ⟨⟨x, rfl, hx⟩, hb2⟩; have q1 := (hb2.cell (p := ⟨b, off + i * 2 + 1, none⟩) (lt_of_cell d1)).trans d1; have q0 := (hb2.cell (p := ⟨tb, toff, none⟩) (lt_of_cell c0)).trans c0))
  have hb : Below w.heap.size w w2 := (Below.refl _ w).drew.trans hb2
  rcases HX.out x hx with ⟨rfl, rfl⟩ | ⟨j, rfl, hj, rfl⟩
  · clear hx HX HK
    go_wp2
    go_ret
    exact ⟨rfl, hb⟩
  · have hcj := (hb.cell (p := ⟨g, j, none⟩) (lt_of_cell (HH.out j hj))).trans (HH.out j hj)
    have hbj := HBD.out j hj
    obtain ⟨cj, hcj'⟩ : ∃ cj, chainAt l j = cj := ⟨_, rfl⟩
    have HCJ := Hid.mk' hcj'
    rw [hcj'] at hcj hbj
    clear hcj'
    have hjl : (j : Int) < (l.length : Int) := by omega
    clear hx HX HK
    go_wp2
    go_ret
    exact ⟨ret_int (by rw [HCJ.out]; omega), hb⟩
end Go.Proofs.YtlnehhfljjeifaaDoor

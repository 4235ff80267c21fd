/-
  What is proved here: what the laws' functions awake and Same answer.
-/
import Derived.Test.YtbpjenckkllbaaaDoorLawIs
namespace Go.Proofs.YtbpjenckkllbaaaDoor
open Go.RowKit

theorem Utf.dec_euro : Utf.dec [226, 130, 172] 0 = ([8364], 0, 0) := by
  rw [Utf.dec_step 0 (r := 8364) (n := 3) (by decide)]
  show Utf.glue [8364] (Utf.dec [] 3) = _
  rw [Utf.dec_nil]; rfl
theorem Utf.dec_cut : Utf.dec [97, 226, 130] 0 = ([], 1, 2) := by
  rw [Utf.dec_step 0 (r := 97) (n := 1) (by decide)]
  show Utf.glue [97] (Utf.dec [226, 130] 1) = _
  rw [Utf.dec_bad 1 (by decide) (by decide)]
  show Utf.glue [97] ([], 1, 2) = _
  rfl

theorem decode_euro (w : World) (p : Nat → Addr) (hg : Gl p w) :
    Calls Tryd.prog 10 #[.string ⟨#[226, 130, 172]⟩] w fun e w' => ∃ g cap, e = .returned (.tuple #[.slice (some ⟨g, 0, none⟩) 1 cap, .nilIface]) ∧ w'.cell? ⟨g, 0, none⟩ = some (.int .i32 8364) ∧ Below w.heap.size w w' := by
  refine (decode_ok ⟨#[226, 130, 172]⟩ w p (by decide) hg [8364] Utf.dec_euro).mono ?_
  rintro e w' ⟨v, rfl, ho, hb⟩
  rcases ho.2 with ⟨rfl, h0⟩ | ⟨g, cap, cur, rfl, _, _⟩
  · simp at h0
  · exact ⟨g, cap, rfl, by rw [ho.cellAt 0 (by decide)]; rfl, hb⟩

set_option maxHeartbeats 1000000 in
theorem awake_any (w : World) (p : Nat → Addr) (hg : Gl p w) :
    Calls Tryd.prog 9 #[] w fun e w' => e = .returned (.bool true) ∧ Below w.heap.size w w' := by
  have HE := Hid.mk' (decode_euro w p hg)
  have HD : Hid (∀ w1, Below w.heap.size w w1 → _) := fun w1 hb => decode_err ⟨#[97, 226, 130]⟩ w1 p (by decide) (hg.below hb) 1 2 Utf.dec_cut (by decide)
  have HI : Hid (∀ w1 v B, Below w.heap.size w w1 → Flt w1 v B 1 (p 2) → _) := fun w1 v B hb hf => lawIs_fault v B 1 2 w1 p (hg.below hb) (by decide) hf
  clear hg
  go_enter Tryd.func9, Tryd.ntmps9
  go_wp2_with fail
  refine HE.out.mono ?_
  rintro e w1 ⟨g, cap, rfl, hc, hb1⟩
  go_wp2_with fail
  refine (HD.out w1 hb1).mono ?_
  rintro e w2 ⟨b, rfl, hf, hb2⟩
  have hb3 := hb1.trans (hb2.mono hb1.size)
  have hc2 := (hb2.cell (p := ⟨g, 0, none⟩) (lt_of_cell hc)).trans hc
  have HI2 := Hid.mk' (HI.out w2 _ _ hb3 hf)
  have hf' := Hid.mk' hf
  clear hf
  go_wp2_with (go_at_call 12; refine HI2.out.mono ?_; rintro e w3 ⟨rfl, hb4⟩)
  go_ret
  exact ⟨rfl, hb3.trans (hb4.mono hb3.size)⟩

set_option maxHeartbeats 1000000 in
theorem same_any (va vb : Value) (rs : List Int) (w : World) (hl : rs.length ≤ 268435456) (ha : Runes w va rs) (hb : Runes w vb rs) :
    Calls Tryd.prog 13 #[va, vb] w fun e w' => e = .returned (.bool true) ∧ Below w.heap.size w w' := by
  obtain ⟨a, ca, rfl, ha⟩ := ha
  obtain ⟨b, cb, rfl, hb⟩ := hb
  have HA := Hid.mk' ha
  have HB := Hid.mk' hb
  clear ha hb
  go_enter Tryd.func13, Tryd.ntmps13
  go_wp2
  go_loopw [5] (fun i wr => ∃ k : Nat, k ≤ rs.length ∧ i = .int .i64 k ∧ Below w.heap.size w wr) (fun i _ => rs.length - (intOf i).toNat)
  case atStart => exact ⟨0, Nat.zero_le _, rfl, Below.refl _ _⟩
  case round =>
    obtain ⟨k, hk, rfl, hbel⟩ := hrel
    by_cases hlt : k < rs.length
    · obtain ⟨ba, oa, rfl, ca0⟩ := HA.out k hlt
      obtain ⟨bb, ob, rfl, cb0⟩ := HB.out k hlt
      have hca := (hbel.cell (p := ⟨ba, oa + k, none⟩) (lt_of_cell ca0)).trans ca0
      have hcb := (hbel.cell (p := ⟨bb, ob + k, none⟩) (lt_of_cell cb0)).trans cb0
      clear ca0 cb0
      generalize rs.getD k 0 = r at hca hcb
      go_wp2
      go_region
      go_wp2
      go_roundw
      case rel => exact ⟨k + 1, by omega, by go_num, hbel.drew⟩
      case measure => simp [intOf]; omega
    · go_wp2
      go_ret
      exact ⟨rfl, hbel⟩
end Go.Proofs.YtbpjenckkllbaaaDoor

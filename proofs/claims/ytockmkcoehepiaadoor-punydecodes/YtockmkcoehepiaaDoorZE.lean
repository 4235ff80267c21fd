/-
  What is proved here: what the laws' function awake answers; what Same answers at the same runes.
-/
import Derived.Test.YtockmkcoehepiaaDoorZ9
import Derived.Test.YtockmkcoehepiaaDoorZD
namespace Go.Proofs.YtockmkcoehepiaaDoor
open Go.RowKit Go.Shelf

theorem bytes_strOf {l : List Int} (h : ∀ b ∈ l, 0 ≤ b ∧ b ≤ 255) : bytesM (strOfNums l) = l := by
  unfold bytesM strOfNums
  simp
  conv => rhs; rw [← List.map_id l]
  refine List.map_congr_left (fun b hb => ?_)
  have := h b hb
  simp
  omega
def sixL : List Int := [98, 252, 99, 104, 101, 114]
theorem ord_six : ordM sixL = [1] := by
  have h := (ord_is sixL).1
  rw [show idxM sixL = [1] by decide +kernel] at h
  exact List.perm_singleton.1 h
theorem enc_six : encM sixL = [98, 99, 104, 101, 114, 45, 107, 118, 97] := by
  unfold encM
  rw [ord_six]
  decide +kernel
theorem high_kv : highAt ⟨#[107, 118]⟩ = -1 := by decide +kernel
theorem from_kv : fromOf ⟨#[107, 118]⟩ = 0 := by decide +kernel
theorem dec_kv : decM (bytesM ⟨#[107, 118]⟩) 0 = .bad 2 2 := by
  rw [show bytesM ⟨#[107, 118]⟩ = [107, 118] by decide +kernel]
  kernel_rfl
theorem strOf_enc : strOfNums [98, 99, 104, 101, 114, 45, 107, 118, 97] = ⟨#[98, 99, 104, 101, 114, 45, 107, 118, 97]⟩ := by decide +kernel
set_option maxRecDepth 20000 in
set_option maxHeartbeats 1000000 in
theorem awake6_any (w : World) (p : Nat → Addr) (hg : Gl p w) (het : Et w) :
    Calls Tryd.prog 24 #[] w fun e w' => e = .returned (.bool true) ∧ Below w.heap.size w w' := by
  obtain ⟨W0, hW0⟩ : ∃ W0, w.alloc (.cells #[.int .i32 98, .int .i32 252, .int .i32 99, .int .i32 104, .int .i32 101, .int .i32 114] 21) = W0 := ⟨_, rfl⟩
  have hb0 : Below w.heap.size w W0 := by rw [← hW0]; exact (Below.refl _ _).alloc (Nat.le_refl _) _
  have hr : RunesC W0 (some ⟨w.heap.size, 0, none⟩) 6 sixL := by
    refine ⟨by decide, fun j hj => ⟨w.heap.size, 0, rfl, ?_⟩⟩
    rw [← hW0, Nat.zero_add, World.cell?_alloc_new]
    have hj' : j < 6 := hj
    match j, hj' with
    | 0, _ => rfl
    | 1, _ => rfl
    | 2, _ => rfl
    | 3, _ => rfl
    | 4, _ => rfl
    | 5, _ => rfl
  have HE : Hid (Calls Tryd.prog 25 #[.slice (some ⟨w.heap.size, 0, none⟩) 6 6] W0 fun e w' => e = .returned (.tuple #[.string ⟨#[98, 99, 104, 101, 114, 45, 107, 118, 97]⟩, .nilIface]) ∧ Below w.heap.size w w') := by
    refine (encode_run (some ⟨w.heap.size, 0, none⟩) 6 sixL W0 p (hg.below hb0) hr (by decide) (by decide +kernel)).mono ?_
    rintro e w' ⟨h, hb⟩
    refine ⟨?_, hb0.trans (hb.mono hb0.size)⟩
    rw [enc_six] at h
    rcases h with ⟨-, h⟩ | ⟨h, -⟩
    · rw [h, strOf_enc]
    · simp at h
  have HD : Hid (∀ W, Below w.heap.size w W → Calls Tryd.prog 27 #[.string ⟨#[107, 118]⟩] W fun e w' => ∃ fv, e = .returned (.tuple #[.slice none 0 0, fv]) ∧ Flt w' fv W.heap.size 2 (p 2) ∧ Below W.heap.size W w') := fun W hW => by
    have := decode_run ⟨#[107, 118]⟩ W p (hg.below hW) (by decide) high_kv
    rw [from_kv, dec_kv] at this
    exact this
  have HI : Hid (∀ W v B, Below w.heap.size w W → Flt W v B 2 (p 2) → _) := fun W v B hb hf => lawIs_fault v B 2 2 W p (hg.below hb) (het.below hb) (by unfold Code; omega) hf
  clear hg het hr hb0
  subst hW0
  go_enter Tryd.func24, Tryd.ntmps24
  go_wp2_with fail
  refine HE.out.mono ?_
  rintro e w1 ⟨rfl, hb1⟩
  go_wp2_with fail
  refine (HD.out w1 hb1).mono ?_
  rintro e w2 ⟨fv, rfl, hf, hb2⟩
  have hb3 := hb1.trans (hb2.mono hb1.size)
  have HI2 := Hid.mk' (HI.out w2 _ _ hb3 hf)
  obtain ⟨fb, q1, rfl, q3, q4⟩ := hf
  clear q3 q4
  go_wp2_with (go_at_call 15; refine HI2.out.mono ?_; rintro e w3 ⟨rfl, hb4⟩)
  go_ret
  exact ⟨rfl, hb3.trans (hb4.mono hb3.size)⟩
set_option maxHeartbeats 1000000 in
theorem same_any (va vb : Value) (rs : List Int) (w : World) (hl : rs.length ≤ 268435456) (ha : Runes w va rs) (hb : Runes w vb rs) :
    Calls Tryd.prog 19 #[va, vb] w fun e w' => e = .returned (.bool true) ∧ Below w.heap.size w w' := by
  obtain ⟨a, ca, rfl, ha⟩ := ha
  obtain ⟨b, cb, rfl, hb⟩ := hb
  have HA := Hid.mk' ha
  have HB := Hid.mk' hb
  clear ha hb
  go_enter Tryd.func19, Tryd.ntmps19
  go_wp2
  go_loopw [5] (fun i wr => ∃ k : Nat, k ≤ rs.length ∧ i = .int .i64 k ∧ Below w.heap.size w wr) (fun i _ => rs.length - (intOf i).toNat)
  case atStart => exact ⟨0, Nat.zero_le _, rfl, Below.refl _ _⟩
  case round =>
    obtain ⟨k, hk, rfl, hbel⟩ := hrel
    by_cases hlt : k < rs.length
    · obtain ⟨ba, oa, rfl, ca0⟩ := HA.out k hlt
      obtain ⟨bb, ob, rfl, cb0⟩ := HB.out k hlt
      have hca := (hbel.cell (p := ⟨ba, oa + k, none⟩) (lt_of_cell ca0)).trans ca0
      have hcb := (hbel.cell (p := ⟨bb, ob + k, none⟩) (lt_of_cell cb0)).trans cb0
      clear ca0 cb0
      generalize rs.getD k 0 = r at hca hcb
      go_wp2
      go_region
      go_wp2
      go_roundw
      case rel => exact ⟨k + 1, by omega, by go_num, hbel.drew⟩
      case measure => simp [intOf]; omega
    · go_wp2
      go_ret
      exact ⟨rfl, hbel⟩
end Go.Proofs.YtockmkcoehepiaaDoor

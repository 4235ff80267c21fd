/-
  What is proved here: what strconv.FormatInt answers in base 16, and ranges' runeText.
-/
import Derived.Test.YtlnehhfljjeifaaGreatDoorF2
import Derived.Test.YtlnehhfljjeifaaGreatDoorBd
namespace Go.Proofs.YtlnehhfljjeifaaGreatDoor
open Go.RowKit

set_option maxHeartbeats 1000000 in
theorem formatIntI_any (n : Nat) (hn : n < 4294967296) (w : World) (h64 : w.cell? ⟨26, 15, none⟩ = some (.int .u8 4)) :
    Calls Tryz.prog 85 #[.int .i64 n, .int .i64 16] w fun e w' => e = .returned (.string (strL (sgs 8 n))) ∧ Below w.heap.size w w' := by
  have HF := Hid.mk' (formatBits_any n hn w h64)
  have hz : decide ((n : Int) < 0) = false := decide_eq_false (by omega)
  generalize strL (sgs 8 n) = S at *
  clear h64
  go_enter Tryz.func85, Tryz.ntmps85
  go_wp2_with fail
  refine HF.out.mono ?_
  rintro e w1 ⟨rfl, hb⟩
  go_wp2
  go_ret
  exact ⟨rfl, hb⟩
set_option maxHeartbeats 1000000 in
theorem formatInt_any (n : Nat) (hn : n < 4294967296) (w : World) (h64 : w.cell? ⟨26, 15, none⟩ = some (.int .u8 4)) :
    Calls Tryz.prog 46 #[.int .i64 n, .int .i64 16] w fun e w' => e = .returned (.string (strL (sgs 8 n))) ∧ Below w.heap.size w w' := by
  have HF := Hid.mk' (formatIntI_any n hn w h64)
  generalize strL (sgs 8 n) = S at *
  clear h64
  go_enter Tryz.func46, Tryz.ntmps46
  go_wp2_with fail
  refine HF.out.mono ?_
  rintro e w1 ⟨rfl, hb⟩
  go_wp2
  go_ret
  exact ⟨rfl, hb⟩
theorem upB_eq (c : UInt8) : Lib.upperB c = upB c := by
  have : ∀ i : Fin 256, Lib.upperB (UInt8.ofNat i.1) = upB (UInt8.ofNat i.1) := by decide +kernel
  have h := this ⟨c.toNat, c.toNat_lt⟩
  simpa using h
theorem toUpper_sgs (n : Nat) (w : World) : Calls Tryz.prog 45 #[.string (strL (sgs 8 n))] w fun e w' => e = .returned (.string (strL (digs 16 8 n))) ∧ Below w.heap.size w w' := by
  have hl := sgs_len 8 n
  have h := Tryz.strings_ToUpper_ascii (strL (sgs 8 n)) w (by rw [strL_size]; omega) (fun j b hj => by
    have : b ∈ sgs 8 n := List.mem_of_getElem? (i := j) (by simpa [strL] using hj)
    exact sgs_low 8 n b this)
  refine h.mono ?_
  rintro e w' ⟨rfl, hb⟩
  refine ⟨?_, hb⟩
  have e : Lib.toUpperA (strL (sgs 8 n)).data.toList = digs 16 8 n := by
    have e1 : (strL (sgs 8 n)).data.toList = sgs 8 n := by simp [strL]
    rw [e1, ← up_sgs]
    unfold Lib.toUpperA
    exact List.map_congr_left (fun c _ => upB_eq c)
  rw [e]; rfl
theorem repeat_zero (c : Nat) (hc : c ≤ 4) (w : World) : Calls Tryz.prog 47 #[.string ⟨#[48]⟩, .int .i64 c] w fun e w' => e = .returned (.string (strL (List.replicate c 48))) ∧ Below w.heap.size w w' := by
  have h := Tryz.strings_Repeat ⟨#[48]⟩ c w (by omega) (by show 1 * c ≤ _; omega)
  refine h.mono ?_
  rintro e w' ⟨rfl, hb⟩
  refine ⟨?_, hb⟩
  have e : ∀ k, Lib.repeatL (⟨#[48]⟩ : ByteArray).data.toList k = List.replicate k 48 := fun k => by
    induction k with
    | zero => rfl
    | succ k ih => rw [List.replicate_succ, ← ih]; rfl
  rw [e]; rfl
set_option maxHeartbeats 2000000 in
theorem runeText_any (n : Nat) (hn : n < 2147483648) (w : World) (h64 : w.cell? ⟨26, 15, none⟩ = some (.int .u8 4)) :
    Calls Tryz.prog 23 #[.int .i32 n] w fun e w' => e = .returned (.string (strL (hexT n))) ∧ Below w.heap.size w w' := by
  have HF := Hid.mk' (formatInt_any n (by omega) w h64)
  have HU : Hid (∀ W, _) := fun W => toUpper_sgs n W
  have HRP : Hid (∀ c W, c ≤ 4 → _) := fun c W hc => repeat_zero c hc W
  have hl := digs_len8 16 n (by omega) (by omega)
  have hne := digs_ne 16 8 n (by omega)
  have hl0 : 0 < (digs 16 8 n).length := List.length_pos_iff.2 hne
  have HE : Hid (hexT n = List.replicate (4 - (digs 16 8 n).length) 48 ++ digs 16 8 n) := rfl
  have hsz := strL_size (digs 16 8 n)
  have HS := Hid.mk' (strL_append (List.replicate (4 - (digs 16 8 n).length) 48) (digs 16 8 n))
  have hsz2 := strL_size (List.replicate (4 - (digs 16 8 n).length) (48 : UInt8))
  rw [List.length_replicate] at hsz2
  rw [← HE.out] at HS
  obtain ⟨c, hc⟩ : ∃ c : Nat, c = 4 - (digs 16 8 n).length := ⟨_, rfl⟩
  rw [← hc] at HS hsz2
  have HC := Hid.mk' hc
  have HRc : Hid (∀ W, Calls Tryz.prog 47 #[.string ⟨#[48]⟩, .int .i64 c] W fun e w' => e = .returned (.string (strL (List.replicate c 48))) ∧ Below W.heap.size W w') := fun W => HRP.out c W (by omega)
  generalize strL (sgs 8 n) = S0 at *
  generalize strL (digs 16 8 n) = D at *
  generalize strL (hexT n) = H at *
  generalize strL (List.replicate c 48) = R at *
  have hD8 : D.size ≤ 8 := by omega
  have hR4 : R.size ≤ 4 := by omega
  have hmx : max (4 - (D.size : Int)) 0 = (c : Int) := by omega
  have hsum : R.size + D.size ≤ 12 := by omega
  clear h64 HRP hc hsz hsz2 hl hl0 hne
  go_enter Tryz.func23, Tryz.ntmps23
  go_wp2_with fail
  refine HF.out.mono ?_
  rintro e w1 ⟨rfl, hb1⟩
  go_wp2_with fail
  refine (HU.out w1).mono ?_
  rintro e w2 ⟨rfl, hb2⟩
  go_wp2_with fail
  refine (HRc.out w2).mono ?_
  rintro e w3 ⟨rfl, hb3⟩
  go_wp2
  go_ret
  exact ⟨by rw [HS.out]; rfl, hb1.trans ((hb2.trans (hb3.mono hb2.size)).mono hb1.size)⟩
end Go.Proofs.YtlnehhfljjeifaaGreatDoor

/-
  What is proved here: slices.partialInsertionSortOrdered at fewer than fifty runes computes the plain one.
-/
import Derived.Test.YtlnehhfljjeifaaGreatDoorH0
namespace Go.Proofs.YtlnehhfljjeifaaGreatDoor
open Go.RowKit Go.Sort

set_option maxRecDepth 20000 in
set_option maxHeartbeats 8000000 in
theorem partial_any (w0 : World) (blk off cap : Nat) (d0 : Array Int) (R : RA w0 blk off d0) (sz : Nat) (hsz : d0.size = sz) (hs : sz ≤ 1073741824) (a b : Nat) (hab : a < b) (hb : b ≤ sz) (h50 : b - a < 50) (d : Array Int) (w : World) (S : Hid (St w0 blk off sz d w)) :
    Calls Tryz.prog 163 #[.slice (some ⟨blk, off, none⟩) sz cap, .int .i64 a, .int .i64 b] w fun e w' => e = .returned (.bool (partialInsertionSort ltInt d a b).2) ∧ St w0 blk off sz (partialInsertionSort ltInt d a b).1 w' := by
  have mixed : Tryz.prog.follows .mixedOrders = true := by kernel_rfl
  have HR := Hid.mk' R
  have HZ := Hid.mk' hsz
  have HT : Hid (scanSorted ltInt d b (a + 1) = b → partialInsertionSort ltInt d a b = (d, true)) := fun h => pi_true ltInt a b 0 (a + 1) d (by omega) h
  have HF : Hid (scanSorted ltInt d b (a + 1) ≠ b → partialInsertionSort ltInt d a b = (d, false)) := fun h => pi_short ltInt a b 0 (a + 1) d (by omega) h h50
  have d50 : (b : Int) - (a : Int) < 50 := by omega
  obtain ⟨T, hT⟩ : ∃ T, partialInsertionSort ltInt d a b = T := ⟨_, rfl⟩
  rw [hT] at HT HF ⊢
  clear R hsz hT
  go_enter Tryz.func163, Tryz.ntmps163
  go_wp2
  go_loopw [7, 8] (fun x z wr => x = .int .i64 ((a : Int) + 1) ∧ z = .int .i64 0 ∧ Hid (St w0 blk off sz d wr)) (fun _ _ _ => 0)
  case atStart => exact ⟨by go_num, rfl, S⟩
  case round =>
    clear S
    obtain ⟨rfl, rfl, S⟩ := hrel
    go_wp2
    go_loopw [7] (fun x wr => ∃ p : Nat, x = .int .i64 p ∧ a < p ∧ p ≤ b ∧ Hid (scanSorted ltInt d b p = scanSorted ltInt d b (a + 1)) ∧ Hid (St w0 blk off sz d wr)) (fun x _ => b - (intOf x).toNat)
    case atStart => exact ⟨a + 1, by go_num, by omega, by omega, rfl, S⟩
    case round =>
      clear S
      obtain ⟨p, rfl, hap, hpb, hI, S⟩ := hrel
      by_cases hlt : p < b
      · obtain ⟨k, rfl⟩ : ∃ k, p = k + 1 := ⟨p - 1, by omega⟩
        obtain ⟨pn, hpn⟩ : ∃ q, q = k + 1 := ⟨_, rfl⟩
        have rpn : IntKind.i64.wrap ((k : Int) + 1) = (k : Int) + 1 := by rw [IntKind.wrap_i64]; omega
        have ppn : (0 : Int) ≤ (k : Int) + 1 := by omega
        have bpn : (k : Int) + 1 < (sz : Int) := by omega
        have epn : ((k : Int) + 1).toNat = pn := by omega
        have bk : (k : Int) < (sz : Int) := by omega
        have wk : IntKind.i64.wrap (k : Int) = (k : Int) := by rw [IntKind.wrap_i64]; omega
        have lk : k < sz ∧ pn < sz := by omega
        have dg : decide ((k : Int) + 1 < (b : Int)) = true := by simp; omega
        have H_hpn := Hid.mk' hpn
        clear hpn
        cases hv : ltInt d[pn]! d[k]! with
        | false =>
          have HV := Hid.mk' hv
          clear hv
          have HN : Hid (scanSorted ltInt d b (k + 1 + 1) = scanSorted ltInt d b (a + 1)) := by rw [← scanSorted_go ltInt d b (k + 1) hlt (by rw [Nat.add_sub_cancel, ← H_hpn.out]; exact HV.out)]; exact hI.out
          obtain ⟨x, y, la, lb, hxy⟩ := S.out.sa.comp HR.out HZ.out S.out.len (i := pn) (j := k) (by omega) (by omega)
          have hd : decide (x < y) = false := by rw [← hxy.out]; exact HV.out
          have hc := fun n os => less_rune x y (grow (wr.drewN n) os)
          clear hxy
          go_wp2_with fail
          go_quiet_grown (first | (go_at_call 164; refine Calls.grown_of (hc _ _)))
          have S2 : Hid (St w0 blk off sz (d) (grow (wr.drewN nq) osq)) := ⟨S.out.len, S.out.sa.grown nq osq⟩
          clear la lb hc
          generalize grow (wr.drewN nq) osq = w2 at S2 ⊢
          clear nq osq
          have hxy2 : y ≤ x := by have := of_decide_eq_false hd; omega
          clear rpn ppn bpn epn
          go_wp2
          go_roundw
          case rel => exact ⟨k + 1 + 1, by go_num, by omega, by omega, HN, S2⟩
          case measure => first | (simp [intOf]; done) | (simp [intOf]; omega)
        | true =>
          have HV := Hid.mk' hv
          clear hv
          have HX : Hid (T = (d, false)) := HF.out (by rw [← hI.out, scanSorted_stop ltInt d b (k + 1) (.inr (by rw [Nat.add_sub_cancel, ← H_hpn.out]; exact HV.out))]; omega)
          obtain ⟨x, y, la, lb, hxy⟩ := S.out.sa.comp HR.out HZ.out S.out.len (i := pn) (j := k) (by omega) (by omega)
          have hd : decide (x < y) = true := by rw [← hxy.out]; exact HV.out
          have hc := fun n os => less_rune x y (grow (wr.drewN n) os)
          clear hxy
          go_wp2_with fail
          go_quiet_grown (first | (go_at_call 164; refine Calls.grown_of (hc _ _)))
          have S2 : Hid (St w0 blk off sz (d) (grow (wr.drewN nq) osq)) := ⟨S.out.len, S.out.sa.grown nq osq⟩
          clear la lb hc
          generalize grow (wr.drewN nq) osq = w2 at S2 ⊢
          clear nq osq
          have hxy2 : x < y := of_decide_eq_true hd
          clear rpn ppn bpn epn
          have hne : ((k : Int) + 1 == (b : Int)) = false := by simp; omega
          go_wp2
          go_ret
          exact ⟨by rw [HX.out] <;> rfl, by rw [HX.out]; exact S2.out⟩
      · obtain rfl : p = b := by omega
        have HX : Hid (T = (d, true)) := HT.out (by rw [← hI.out, scanSorted_stop ltInt d p p (.inl (by omega))])
        have dg : decide ((p : Int) < (p : Int)) = false := by simp
        go_wp2_with fail
        go_region
        have S2 : Hid (St w0 blk off sz (d) wr.drew) := ⟨S.out.len, SW.drew S.out.sa⟩
        generalize wr.drew = w2 at S2 ⊢
        go_wp2
        go_ret
        exact ⟨by rw [HX.out] <;> rfl, by rw [HX.out]; exact S2.out⟩
end Go.Proofs.YtlnehhfljjeifaaGreatDoor

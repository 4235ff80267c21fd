/-
  What is proved here: slices.pdqsortOrdered at fewer than fifty runes sorts them.
-/
import Derived.Test.YtlnehhfljjeifaaDoorHS
import Derived.Test.YtlnehhfljjeifaaDoorH5
import Derived.Test.YtlnehhfljjeifaaDoorH6
import Derived.Test.YtlnehhfljjeifaaDoorH8
import Derived.Deep.CutRange
namespace Go.Proofs.YtlnehhfljjeifaaDoor
open Go.RowKit Go.Sort

theorem partial_same (d : Array Int) (a b : Nat) (h50 : b - a < 50) : (partialInsertionSort ltInt d a b).1 = d := by
  by_cases h : scanSorted ltInt d b (a + 1) = b
  · have e : partialInsertionSort ltInt d a b = (d, true) := pi_true ltInt a b 0 (a + 1) d (by omega) h
    rw [e]
  · have e : partialInsertionSort ltInt d a b = (d, false) := pi_short ltInt a b 0 (a + 1) d (by omega) h h50
    rw [e]
set_option maxRecDepth 20000 in
set_option maxHeartbeats 64000000 in
theorem pdq_any (w0 : World) (blk off cap : Nat) (d0 : Array Int) (R : RA w0 blk off d0) (sz : Nat) (hsz : d0.size = sz) (hs : sz ≤ 1073741824) : ∀ (N a0 b0 : Nat) (lim0 : Int) (d : Array Int) (w : World), b0 - a0 < N → a0 ≤ b0 → b0 ≤ sz → b0 - a0 < 50 → Go.Sort.Below ltInt a0 b0 d → Hid (St w0 blk off sz d w) →
    Calls Tryd.prog 53 #[.slice (some ⟨blk, off, none⟩) sz cap, .int .i64 a0, .int .i64 b0, .int .i64 lim0] w fun e w' => e = .returned (.tuple #[]) ∧ ∃ d', Hid (PermIn a0 b0 d d') ∧ Hid (SortedIn ltInt a0 b0 d') ∧ Hid (St w0 blk off sz d' w') := by
  have mixed : Tryd.prog.follows .mixedOrders = true := by kernel_rfl
  intro N
  induction N with
  | zero => intro a0 b0 lim0 d w h; omega
  | succ N ih =>
  intro a0 b0 lim0 d w hN hab0 hb0 h50 hBl0 S
  have HR := Hid.mk' R
  have HZ := Hid.mk' hsz
  have IH := Hid.mk' ih
  have C1 := Hid.mk' (fun a b hab hb d w S => insSort_any w0 blk off cap d0 R sz hsz hs a b hab hb d w S)
  have C3 := Hid.mk' (fun a b hab hb d w S => heap_any w0 blk off cap d0 R sz hsz hs a b hab hb d w S)
  have C5 := Hid.mk' (fun a b p h1 h2 hb d w S => partition_any w0 blk off cap d0 R sz hsz hs a b p h1 h2 hb d w S)
  have C6 := Hid.mk' (fun a b p h1 h2 hb d w S => partEqual_any w0 blk off cap d0 R sz hsz hs a b p h1 h2 hb d w S)
  have C7 := Hid.mk' (fun a b hab hb h50 d w S => partial_any w0 blk off cap d0 R sz hsz hs a b hab hb h50 d w S)
  have C8 := Hid.mk' (fun a b hab hb d w S => break_any w0 blk off cap d0 R sz hsz hs a b hab hb d w S)
  have C9 := Hid.mk' (fun a b hab hb h50 d w S => pivot_any w0 blk off cap d0 R sz hsz hs a b hab hb h50 d w S)
  have HB0 := Hid.mk' hBl0
  have HF0 : Hid (∀ Q, PermIn a0 b0 d Q → SortedIn ltInt a0 b0 Q → PermIn a0 b0 d Q ∧ SortedIn ltInt a0 b0 Q) := fun Q h1 h2 => ⟨h1, h2⟩
  clear R hsz ih hBl0
  go_enter Tryd.func53, Tryd.ntmps53
  go_wp2
  go_loopw [1, 2, 3, 8, 9] (fun x y l c1 c2 wr => ∃ (a b : Nat) (lim : Int) (wb wp : Bool) (dk : Array Int), x = .int .i64 a ∧ y = .int .i64 b ∧ l = .int .i64 lim ∧ c1 = .bool wb ∧ c2 = .bool wp ∧ a ≤ b ∧ b ≤ sz ∧ b - a < 50 ∧ b - a ≤ b0 - a0 ∧ Hid (Go.Sort.Below ltInt a b dk) ∧ Hid (∀ Q, PermIn a b dk Q → SortedIn ltInt a b Q → PermIn a0 b0 d Q ∧ SortedIn ltInt a0 b0 Q) ∧ Hid (St w0 blk off sz dk wr)) (fun x y _ _ _ _ => (intOf y).toNat - (intOf x).toNat)
  case atStart => exact ⟨a0, b0, lim0, true, true, d, rfl, rfl, rfl, rfl, rfl, hab0, hb0, h50, Nat.le_refl _, HB0, HF0, S⟩
  case round =>
    clear HB0 HF0 S h50 hab0 hb0
    obtain ⟨a, b, lim, wb, wp, dk, rfl, rfl, rfl, rfl, rfl, hab, hb, h50, hn0, hB, hFin, S⟩ := hrel
    obtain ⟨n, hn⟩ : ∃ q : Nat, q = b - a := ⟨_, rfl⟩
    have zn : (b : Int) - (a : Int) = (n : Int) := by omega
    by_cases h12 : n ≤ 12
    · have HP := Hid.mk' (insertionSort_holds (lt := ltInt) swo_ltInt dk a b hab (by have := S.out.len; omega))
      have HC := Hid.mk' (C1.out a b hab hb dk wr S)
      have HQ : Hid (PermIn a0 b0 d (insertionSort ltInt dk a b) ∧ SortedIn ltInt a0 b0 (insertionSort ltInt dk a b)) := hFin.out _ HP.out.1 HP.out.2
      have H_hn := Hid.mk' hn
      clear hn
      clear S
      go_wp2_with fail
      refine HC.out.mono ?_
      rintro e w3 ⟨rfl, h3⟩
      have S3 := Hid.mk' h3
      clear h3
      go_wp2
      (try simp only [Exit.inBlock, Exit.then]); refine bodyPost_ret (results_none rfl _ _ _) rfl ?_
      exact ⟨rfl, _, HQ.out.1, HQ.out.2, S3⟩
    · by_cases hl0 : lim = 0
      · subst hl0
        have HP := Hid.mk' (heapSort_holds (lt := ltInt) swo_ltInt dk a b hab (by have := S.out.len; omega))
        have HC := Hid.mk' (C3.out a b hab hb dk wr S)
        have HQ : Hid (PermIn a0 b0 d (heapSort ltInt dk a b) ∧ SortedIn ltInt a0 b0 (heapSort ltInt dk a b)) := hFin.out _ HP.out.1 HP.out.2
        have H_hn := Hid.mk' hn
        clear hn
        clear S
        go_wp2_with fail
        refine HC.out.mono ?_
        rintro e w3 ⟨rfl, h3⟩
        have S3 := Hid.mk' h3
        clear h3
        go_wp2
        (try simp only [Exit.inBlock, Exit.then]); refine bodyPost_ret (results_none rfl _ _ _) rfl ?_
        exact ⟨rfl, _, HQ.out.1, HQ.out.2, S3⟩
      · have hl1 : (lim == 0) = false := by simp; exact hl0
        have han : a + 12 < b := by omega
        have H_hn := Hid.mk' hn
        clear hn
        have P0 : Hid (PermIn a b dk dk) := permIn_refl _ a b
        cases wb with
        | false =>
          go_wp2_with fail
          refine (C8.out a b (by omega) hb dk wr S).mono ?_
          rintro e w2 ⟨rfl, d1, hp1, S1⟩
          have B1 : Hid (Go.Sort.Below ltInt a b d1) := Go.Sort.Below.perm hB.out (by have := S.out.len; omega) hp1.out
          clear S
          go_wp2_with fail
          refine (C9.out a b (by omega) hb h50 d1 _ S1).mono ?_
          rintro e w3 ⟨p, h, rfl, hp1, hp2, hh, S3⟩
          have hpa : a ≤ p ∧ p < b := ⟨hp1, hp2⟩
          clear hp1 hp2
          rcases (by omega : h = 0 ∨ h = 1) with rfl | rfl
          · obtain ⟨cd, hcd⟩ : ∃ cd : Bool, cd = (decide (0 < a) && !ltInt d1[a - 1]! d1[p]!) := ⟨_, rfl⟩
            have HCD := Hid.mk' hcd
            clear hcd
            go_upto_region 17 with fail
            go_cut [87] from 73 to 86 (fun x wx => x = .bool cd ∧ Hid (St w0 blk off sz d1 wx))
            case first =>
              have bp : (p : Int) < (sz : Int) := by omega
              by_cases ha0 : a = 0
              · have dg0 : decide ((0 : Int) < (a : Int)) = false := by simp; omega
                have dg1 : decide (0 < a) = false := by simp; omega
                have hX : cd = false := by rw [HCD.out, dg1]; rfl
                clear hpa ha0
                subst hX
                go_wp2_with fail
                go_region
                have S8 : Hid (St w0 blk off sz d1 (World.drew _)) := ⟨S3.out.len, SW.drew S3.out.sa⟩
                go_wp2
                go_meet
                case rel => exact ⟨rfl, S8⟩
              · obtain ⟨k, rfl⟩ : ∃ k, a = k + 1 := ⟨a - 1, by omega⟩
                have bk : (k : Int) < (sz : Int) := by omega
                have wk : IntKind.i64.wrap (k : Int) = (k : Int) := by rw [IntKind.wrap_i64]; omega
                have lk : k < sz ∧ p < sz := by omega
                have dg0 : decide ((0 : Int) < (k : Int) + 1) = true := decide_eq_true (by omega)
                cases hv : ltInt d1[k]! d1[p]! with
                | true =>
                  have HV := Hid.mk' hv
                  clear hv
                  have hX : cd = false := by have := HCD.out; rw [Nat.add_sub_cancel, HV.out] at this; rw [this] <;> simp
                  subst hX
                  obtain ⟨x, y, la, lb, hxy⟩ := S3.out.sa.comp HR.out HZ.out S3.out.len (i := k) (j := p) lk.1 lk.2
                  have hd : decide (x < y) = true := by rw [← hxy.out]; exact HV.out
                  have hc := fun n os W => less_rune x y (grow (World.drewN W n) os)
                  clear hxy
                  go_wp2_with fail
                  go_quiet_grown (first | (go_at_call 70; refine Calls.grown_of (hc _ _ _)))
                  have S8 : Hid (St w0 blk off sz d1 (grow (World.drewN _ nq) osq)) := ⟨S3.out.len, S3.out.sa.grown nq osq⟩
                  clear la lb hc
                  go_wp2
                  go_meet
                  case rel => exact ⟨rfl, S8⟩
                | false =>
                  have HV := Hid.mk' hv
                  clear hv
                  have hX : cd = true := by have := HCD.out; rw [Nat.add_sub_cancel, HV.out] at this; rw [this] <;> simp
                  subst hX
                  obtain ⟨x, y, la, lb, hxy⟩ := S3.out.sa.comp HR.out HZ.out S3.out.len (i := k) (j := p) lk.1 lk.2
                  have hd : decide (x < y) = false := by rw [← hxy.out]; exact HV.out
                  have hc := fun n os W => less_rune x y (grow (World.drewN W n) os)
                  clear hxy
                  go_wp2_with fail
                  go_quiet_grown (first | (go_at_call 70; refine Calls.grown_of (hc _ _ _)))
                  have S8 : Hid (St w0 blk off sz d1 (grow (World.drewN _ nq) osq)) := ⟨S3.out.len, S3.out.sa.grown nq osq⟩
                  clear la lb hc
                  go_wp2
                  go_meet
                  case rel => exact ⟨rfl, S8⟩
            case rest =>
              obtain ⟨rfl, S7⟩ := hcut
              clear S3
              cases cd with
              | true =>
                have hq := HCD.out.symm
                rw [Bool.and_eq_true, decide_eq_true_eq, Bool.not_eq_true'] at hq
                obtain ⟨r1, r2, r3, r4, r5⟩ := round_eq swo_ltInt (partitionEqual_holds ltInt) hq.1 hpa.1 hpa.2 (by have := S7.out.len; omega) B1.out hq.2 (Prod.eta (partitionEqual ltInt d1 a b p)).symm
                have HC := Hid.mk' (C6.out a b p hpa.1 hpa.2 hb d1 _ S7)
                clear hq S7
                generalize partitionEqual ltInt d1 a b p = pe at r1 r2 r3 r4 r5 HC
                obtain ⟨mid, d4⟩ := pe
                simp only [] at r1 r2 r3 r4 r5 HC
                have HB4 := Hid.mk' r4
                have HF4 : Hid (∀ Q, PermIn mid b d4 Q → SortedIn ltInt mid b Q → PermIn a0 b0 d Q ∧ SortedIn ltInt a0 b0 Q) := fun Q h1 h2 => hFin.out Q (permIn_trans _ _ _ a b hp1.out (r5 Q h1 h2).1) (r5 Q h1 h2).2
                clear r3 r4 r5
                go_wp2_with fail
                refine HC.out.mono ?_
                rintro e w8 ⟨rfl, h8⟩
                have S8 := Hid.mk' h8
                clear h8 HC
                go_wp2
                go_roundw
                case rel => exact ⟨mid, b, _, _, _, d4, rfl, rfl, rfl, rfl, rfl, by omega, hb, by omega, by omega, HB4, HF4, S8⟩
                case measure => first | (simp [intOf]; done) | (simp [intOf]; omega)
              | false =>
                obtain ⟨r1, r2, r3, r4, r5, r6, r7⟩ := round_part (ap := (partition ltInt d1 a b p).2.1) (d4 := (partition ltInt d1 a b p).2.2) (mid := (partition ltInt d1 a b p).1) swo_ltInt (partition_holds ltInt) hpa.1 hpa.2 (by have := S7.out.len; omega) B1.out rfl
                have HC := Hid.mk' (C5.out a b p hpa.1 hpa.2 hb d1 _ S7)
                clear S7
                generalize partition ltInt d1 a b p = pt at r1 r2 r3 r4 r5 r6 r7 HC
                obtain ⟨mid, ap, d4⟩ := pt
                simp only [] at r1 r2 r3 r4 r5 r6 r7 HC
                have H4 := Hid.mk' r4
                have H5 := Hid.mk' r5
                have H6 := Hid.mk' r6
                have H7 := Hid.mk' r7
                clear r3 r4 r5 r6 r7
                obtain ⟨ll, hll⟩ : ∃ q : Nat, q = mid - a := ⟨_, rfl⟩
                obtain ⟨rl, hrl⟩ : ∃ q : Nat, q = b - mid := ⟨_, rfl⟩
                obtain ⟨m1, hm1⟩ : ∃ q : Nat, q = mid + 1 := ⟨_, rfl⟩
                have zll : (mid : Int) - (a : Int) = (ll : Int) := by omega
                have zrl : (b : Int) - (mid : Int) = (rl : Int) := by omega
                have zm1 : (mid : Int) + 1 = (m1 : Int) := by omega
                have hm1b : m1 ≤ b ∧ mid < m1 ∧ b - m1 < N ∧ mid - a < N ∧ b - m1 < 50 ∧ mid - a < 50 := by omega
                rw [← hm1] at H5 H6 H7
                have H_hll := Hid.mk' hll
                clear hll
                have H_hrl := Hid.mk' hrl
                clear hrl
                have H_hm1 := Hid.mk' hm1
                clear hm1
                go_wp2_with fail
                refine HC.out.mono ?_
                rintro e w8 ⟨rfl, h8⟩
                have S8 := Hid.mk' h8
                clear h8 HC
                by_cases hlr : ll < rl
                · have _hz := hlr
                  go_wp2_with fail
                  refine (IH.out a mid _ d4 w8 hm1b.2.2.2.1 r1 (by omega) hm1b.2.2.2.2.2 H4.out S8).mono ?_
                  rintro e w9 ⟨rfl, d5, hp5, hs5, S9⟩
                  have HB5 : Hid (Go.Sort.Below ltInt m1 b d5) := (H6.out d5 hp5.out hs5.out).1
                  have HF5 : Hid (∀ Q, PermIn m1 b d5 Q → SortedIn ltInt m1 b Q → PermIn a0 b0 d Q ∧ SortedIn ltInt a0 b0 Q) := fun Q h1 h2 => hFin.out Q (permIn_trans _ _ _ a b hp1.out ((H6.out d5 hp5.out hs5.out).2 Q h1 h2).1) ((H6.out d5 hp5.out hs5.out).2 Q h1 h2).2
                  clear S8
                  go_wp2
                  go_roundw
                  case rel => exact ⟨m1, b, _, _, _, d5, rfl, rfl, rfl, rfl, rfl, by omega, hb, by omega, by omega, HB5, HF5, S9⟩
                  case measure => first | (simp [intOf]; done) | (simp [intOf]; omega)
                · go_wp2_with fail
                  refine (IH.out m1 b _ d4 w8 hm1b.2.2.1 hm1b.1 hb hm1b.2.2.2.2.1 H5.out S8).mono ?_
                  rintro e w9 ⟨rfl, d5, hp5, hs5, S9⟩
                  have HB5 : Hid (Go.Sort.Below ltInt a mid d5) := (H7.out d5 hp5.out hs5.out).1
                  have HF5 : Hid (∀ Q, PermIn a mid d5 Q → SortedIn ltInt a mid Q → PermIn a0 b0 d Q ∧ SortedIn ltInt a0 b0 Q) := fun Q h1 h2 => hFin.out Q (permIn_trans _ _ _ a b hp1.out ((H7.out d5 hp5.out hs5.out).2 Q h1 h2).1) ((H7.out d5 hp5.out hs5.out).2 Q h1 h2).2
                  clear S8
                  go_wp2
                  go_roundw
                  case rel => exact ⟨a, mid, _, _, _, d5, rfl, rfl, rfl, rfl, rfl, r1, by omega, by omega, by omega, HB5, HF5, S9⟩
                  case measure => first | (simp [intOf]; done) | (simp [intOf]; omega)
          · obtain ⟨cd, hcd⟩ : ∃ cd : Bool, cd = (decide (0 < a) && !ltInt d1[a - 1]! d1[p]!) := ⟨_, rfl⟩
            have HCD := Hid.mk' hcd
            clear hcd
            go_upto_region 17 with fail
            go_cut [87] from 73 to 86 (fun x wx => x = .bool cd ∧ Hid (St w0 blk off sz d1 wx))
            case first =>
              have bp : (p : Int) < (sz : Int) := by omega
              by_cases ha0 : a = 0
              · have dg0 : decide ((0 : Int) < (a : Int)) = false := by simp; omega
                have dg1 : decide (0 < a) = false := by simp; omega
                have hX : cd = false := by rw [HCD.out, dg1]; rfl
                clear hpa ha0
                subst hX
                go_wp2_with fail
                go_region
                have S8 : Hid (St w0 blk off sz d1 (World.drew _)) := ⟨S3.out.len, SW.drew S3.out.sa⟩
                go_wp2
                go_meet
                case rel => exact ⟨rfl, S8⟩
              · obtain ⟨k, rfl⟩ : ∃ k, a = k + 1 := ⟨a - 1, by omega⟩
                have bk : (k : Int) < (sz : Int) := by omega
                have wk : IntKind.i64.wrap (k : Int) = (k : Int) := by rw [IntKind.wrap_i64]; omega
                have lk : k < sz ∧ p < sz := by omega
                have dg0 : decide ((0 : Int) < (k : Int) + 1) = true := decide_eq_true (by omega)
                cases hv : ltInt d1[k]! d1[p]! with
                | true =>
                  have HV := Hid.mk' hv
                  clear hv
                  have hX : cd = false := by have := HCD.out; rw [Nat.add_sub_cancel, HV.out] at this; rw [this] <;> simp
                  subst hX
                  obtain ⟨x, y, la, lb, hxy⟩ := S3.out.sa.comp HR.out HZ.out S3.out.len (i := k) (j := p) lk.1 lk.2
                  have hd : decide (x < y) = true := by rw [← hxy.out]; exact HV.out
                  have hc := fun n os W => less_rune x y (grow (World.drewN W n) os)
                  clear hxy
                  go_wp2_with fail
                  go_quiet_grown (first | (go_at_call 70; refine Calls.grown_of (hc _ _ _)))
                  have S8 : Hid (St w0 blk off sz d1 (grow (World.drewN _ nq) osq)) := ⟨S3.out.len, S3.out.sa.grown nq osq⟩
                  clear la lb hc
                  go_wp2
                  go_meet
                  case rel => exact ⟨rfl, S8⟩
                | false =>
                  have HV := Hid.mk' hv
                  clear hv
                  have hX : cd = true := by have := HCD.out; rw [Nat.add_sub_cancel, HV.out] at this; rw [this] <;> simp
                  subst hX
                  obtain ⟨x, y, la, lb, hxy⟩ := S3.out.sa.comp HR.out HZ.out S3.out.len (i := k) (j := p) lk.1 lk.2
                  have hd : decide (x < y) = false := by rw [← hxy.out]; exact HV.out
                  have hc := fun n os W => less_rune x y (grow (World.drewN W n) os)
                  clear hxy
                  go_wp2_with fail
                  go_quiet_grown (first | (go_at_call 70; refine Calls.grown_of (hc _ _ _)))
                  have S8 : Hid (St w0 blk off sz d1 (grow (World.drewN _ nq) osq)) := ⟨S3.out.len, S3.out.sa.grown nq osq⟩
                  clear la lb hc
                  go_wp2
                  go_meet
                  case rel => exact ⟨rfl, S8⟩
            case rest =>
              obtain ⟨rfl, S7⟩ := hcut
              clear S3
              cases cd with
              | true =>
                have hq := HCD.out.symm
                rw [Bool.and_eq_true, decide_eq_true_eq, Bool.not_eq_true'] at hq
                obtain ⟨r1, r2, r3, r4, r5⟩ := round_eq swo_ltInt (partitionEqual_holds ltInt) hq.1 hpa.1 hpa.2 (by have := S7.out.len; omega) B1.out hq.2 (Prod.eta (partitionEqual ltInt d1 a b p)).symm
                have HC := Hid.mk' (C6.out a b p hpa.1 hpa.2 hb d1 _ S7)
                clear hq S7
                generalize partitionEqual ltInt d1 a b p = pe at r1 r2 r3 r4 r5 HC
                obtain ⟨mid, d4⟩ := pe
                simp only [] at r1 r2 r3 r4 r5 HC
                have HB4 := Hid.mk' r4
                have HF4 : Hid (∀ Q, PermIn mid b d4 Q → SortedIn ltInt mid b Q → PermIn a0 b0 d Q ∧ SortedIn ltInt a0 b0 Q) := fun Q h1 h2 => hFin.out Q (permIn_trans _ _ _ a b hp1.out (r5 Q h1 h2).1) (r5 Q h1 h2).2
                clear r3 r4 r5
                go_wp2_with fail
                refine HC.out.mono ?_
                rintro e w8 ⟨rfl, h8⟩
                have S8 := Hid.mk' h8
                clear h8 HC
                go_wp2
                go_roundw
                case rel => exact ⟨mid, b, _, _, _, d4, rfl, rfl, rfl, rfl, rfl, by omega, hb, by omega, by omega, HB4, HF4, S8⟩
                case measure => first | (simp [intOf]; done) | (simp [intOf]; omega)
              | false =>
                obtain ⟨r1, r2, r3, r4, r5, r6, r7⟩ := round_part (ap := (partition ltInt d1 a b p).2.1) (d4 := (partition ltInt d1 a b p).2.2) (mid := (partition ltInt d1 a b p).1) swo_ltInt (partition_holds ltInt) hpa.1 hpa.2 (by have := S7.out.len; omega) B1.out rfl
                have HC := Hid.mk' (C5.out a b p hpa.1 hpa.2 hb d1 _ S7)
                clear S7
                generalize partition ltInt d1 a b p = pt at r1 r2 r3 r4 r5 r6 r7 HC
                obtain ⟨mid, ap, d4⟩ := pt
                simp only [] at r1 r2 r3 r4 r5 r6 r7 HC
                have H4 := Hid.mk' r4
                have H5 := Hid.mk' r5
                have H6 := Hid.mk' r6
                have H7 := Hid.mk' r7
                clear r3 r4 r5 r6 r7
                obtain ⟨ll, hll⟩ : ∃ q : Nat, q = mid - a := ⟨_, rfl⟩
                obtain ⟨rl, hrl⟩ : ∃ q : Nat, q = b - mid := ⟨_, rfl⟩
                obtain ⟨m1, hm1⟩ : ∃ q : Nat, q = mid + 1 := ⟨_, rfl⟩
                have zll : (mid : Int) - (a : Int) = (ll : Int) := by omega
                have zrl : (b : Int) - (mid : Int) = (rl : Int) := by omega
                have zm1 : (mid : Int) + 1 = (m1 : Int) := by omega
                have hm1b : m1 ≤ b ∧ mid < m1 ∧ b - m1 < N ∧ mid - a < N ∧ b - m1 < 50 ∧ mid - a < 50 := by omega
                rw [← hm1] at H5 H6 H7
                have H_hll := Hid.mk' hll
                clear hll
                have H_hrl := Hid.mk' hrl
                clear hrl
                have H_hm1 := Hid.mk' hm1
                clear hm1
                go_wp2_with fail
                refine HC.out.mono ?_
                rintro e w8 ⟨rfl, h8⟩
                have S8 := Hid.mk' h8
                clear h8 HC
                by_cases hlr : ll < rl
                · have _hz := hlr
                  go_wp2_with fail
                  refine (IH.out a mid _ d4 w8 hm1b.2.2.2.1 r1 (by omega) hm1b.2.2.2.2.2 H4.out S8).mono ?_
                  rintro e w9 ⟨rfl, d5, hp5, hs5, S9⟩
                  have HB5 : Hid (Go.Sort.Below ltInt m1 b d5) := (H6.out d5 hp5.out hs5.out).1
                  have HF5 : Hid (∀ Q, PermIn m1 b d5 Q → SortedIn ltInt m1 b Q → PermIn a0 b0 d Q ∧ SortedIn ltInt a0 b0 Q) := fun Q h1 h2 => hFin.out Q (permIn_trans _ _ _ a b hp1.out ((H6.out d5 hp5.out hs5.out).2 Q h1 h2).1) ((H6.out d5 hp5.out hs5.out).2 Q h1 h2).2
                  clear S8
                  go_wp2
                  go_roundw
                  case rel => exact ⟨m1, b, _, _, _, d5, rfl, rfl, rfl, rfl, rfl, by omega, hb, by omega, by omega, HB5, HF5, S9⟩
                  case measure => first | (simp [intOf]; done) | (simp [intOf]; omega)
                · go_wp2_with fail
                  refine (IH.out m1 b _ d4 w8 hm1b.2.2.1 hm1b.1 hb hm1b.2.2.2.2.1 H5.out S8).mono ?_
                  rintro e w9 ⟨rfl, d5, hp5, hs5, S9⟩
                  have HB5 : Hid (Go.Sort.Below ltInt a mid d5) := (H7.out d5 hp5.out hs5.out).1
                  have HF5 : Hid (∀ Q, PermIn a mid d5 Q → SortedIn ltInt a mid Q → PermIn a0 b0 d Q ∧ SortedIn ltInt a0 b0 Q) := fun Q h1 h2 => hFin.out Q (permIn_trans _ _ _ a b hp1.out ((H7.out d5 hp5.out hs5.out).2 Q h1 h2).1) ((H7.out d5 hp5.out hs5.out).2 Q h1 h2).2
                  clear S8
                  go_wp2
                  go_roundw
                  case rel => exact ⟨a, mid, _, _, _, d5, rfl, rfl, rfl, rfl, rfl, r1, by omega, by omega, by omega, HB5, HF5, S9⟩
                  case measure => first | (simp [intOf]; done) | (simp [intOf]; omega)
        | true =>
          cases wp with
          | false =>
            go_wp2_with fail
            refine (C9.out a b (by omega) hb h50 dk _ S).mono ?_
            rintro e w3 ⟨p, h, rfl, hp1, hp2, hh, S3⟩
            have hpa : a ≤ p ∧ p < b := ⟨hp1, hp2⟩
            clear hp1 hp2
            rcases (by omega : h = 0 ∨ h = 1) with rfl | rfl
            · obtain ⟨cd, hcd⟩ : ∃ cd : Bool, cd = (decide (0 < a) && !ltInt dk[a - 1]! dk[p]!) := ⟨_, rfl⟩
              have HCD := Hid.mk' hcd
              clear hcd
              go_upto_region 17 with fail
              go_cut [87] from 73 to 86 (fun x wx => x = .bool cd ∧ Hid (St w0 blk off sz dk wx))
              case first =>
                have bp : (p : Int) < (sz : Int) := by omega
                by_cases ha0 : a = 0
                · have dg0 : decide ((0 : Int) < (a : Int)) = false := by simp; omega
                  have dg1 : decide (0 < a) = false := by simp; omega
                  have hX : cd = false := by rw [HCD.out, dg1]; rfl
                  clear hpa ha0
                  subst hX
                  go_wp2_with fail
                  go_region
                  have S8 : Hid (St w0 blk off sz dk (World.drew _)) := ⟨S3.out.len, SW.drew S3.out.sa⟩
                  go_wp2
                  go_meet
                  case rel => exact ⟨rfl, S8⟩
                · obtain ⟨k, rfl⟩ : ∃ k, a = k + 1 := ⟨a - 1, by omega⟩
                  have bk : (k : Int) < (sz : Int) := by omega
                  have wk : IntKind.i64.wrap (k : Int) = (k : Int) := by rw [IntKind.wrap_i64]; omega
                  have lk : k < sz ∧ p < sz := by omega
                  have dg0 : decide ((0 : Int) < (k : Int) + 1) = true := decide_eq_true (by omega)
                  cases hv : ltInt dk[k]! dk[p]! with
                  | true =>
                    have HV := Hid.mk' hv
                    clear hv
                    have hX : cd = false := by have := HCD.out; rw [Nat.add_sub_cancel, HV.out] at this; rw [this] <;> simp
                    subst hX
                    obtain ⟨x, y, la, lb, hxy⟩ := S3.out.sa.comp HR.out HZ.out S3.out.len (i := k) (j := p) lk.1 lk.2
                    have hd : decide (x < y) = true := by rw [← hxy.out]; exact HV.out
                    have hc := fun n os W => less_rune x y (grow (World.drewN W n) os)
                    clear hxy
                    go_wp2_with fail
                    go_quiet_grown (first | (go_at_call 70; refine Calls.grown_of (hc _ _ _)))
                    have S8 : Hid (St w0 blk off sz dk (grow (World.drewN _ nq) osq)) := ⟨S3.out.len, S3.out.sa.grown nq osq⟩
                    clear la lb hc
                    go_wp2
                    go_meet
                    case rel => exact ⟨rfl, S8⟩
                  | false =>
                    have HV := Hid.mk' hv
                    clear hv
                    have hX : cd = true := by have := HCD.out; rw [Nat.add_sub_cancel, HV.out] at this; rw [this] <;> simp
                    subst hX
                    obtain ⟨x, y, la, lb, hxy⟩ := S3.out.sa.comp HR.out HZ.out S3.out.len (i := k) (j := p) lk.1 lk.2
                    have hd : decide (x < y) = false := by rw [← hxy.out]; exact HV.out
                    have hc := fun n os W => less_rune x y (grow (World.drewN W n) os)
                    clear hxy
                    go_wp2_with fail
                    go_quiet_grown (first | (go_at_call 70; refine Calls.grown_of (hc _ _ _)))
                    have S8 : Hid (St w0 blk off sz dk (grow (World.drewN _ nq) osq)) := ⟨S3.out.len, S3.out.sa.grown nq osq⟩
                    clear la lb hc
                    go_wp2
                    go_meet
                    case rel => exact ⟨rfl, S8⟩
              case rest =>
                obtain ⟨rfl, S7⟩ := hcut
                clear S3
                cases cd with
                | true =>
                  have hq := HCD.out.symm
                  rw [Bool.and_eq_true, decide_eq_true_eq, Bool.not_eq_true'] at hq
                  obtain ⟨r1, r2, r3, r4, r5⟩ := round_eq swo_ltInt (partitionEqual_holds ltInt) hq.1 hpa.1 hpa.2 (by have := S7.out.len; omega) hB.out hq.2 (Prod.eta (partitionEqual ltInt dk a b p)).symm
                  have HC := Hid.mk' (C6.out a b p hpa.1 hpa.2 hb dk _ S7)
                  clear hq S7
                  generalize partitionEqual ltInt dk a b p = pe at r1 r2 r3 r4 r5 HC
                  obtain ⟨mid, d4⟩ := pe
                  simp only [] at r1 r2 r3 r4 r5 HC
                  have HB4 := Hid.mk' r4
                  have HF4 : Hid (∀ Q, PermIn mid b d4 Q → SortedIn ltInt mid b Q → PermIn a0 b0 d Q ∧ SortedIn ltInt a0 b0 Q) := fun Q h1 h2 => hFin.out Q (permIn_trans _ _ _ a b P0.out (r5 Q h1 h2).1) (r5 Q h1 h2).2
                  clear r3 r4 r5
                  go_wp2_with fail
                  refine HC.out.mono ?_
                  rintro e w8 ⟨rfl, h8⟩
                  have S8 := Hid.mk' h8
                  clear h8 HC
                  go_wp2
                  go_roundw
                  case rel => exact ⟨mid, b, _, _, _, d4, rfl, rfl, rfl, rfl, rfl, by omega, hb, by omega, by omega, HB4, HF4, S8⟩
                  case measure => first | (simp [intOf]; done) | (simp [intOf]; omega)
                | false =>
                  obtain ⟨r1, r2, r3, r4, r5, r6, r7⟩ := round_part (ap := (partition ltInt dk a b p).2.1) (d4 := (partition ltInt dk a b p).2.2) (mid := (partition ltInt dk a b p).1) swo_ltInt (partition_holds ltInt) hpa.1 hpa.2 (by have := S7.out.len; omega) hB.out rfl
                  have HC := Hid.mk' (C5.out a b p hpa.1 hpa.2 hb dk _ S7)
                  clear S7
                  generalize partition ltInt dk a b p = pt at r1 r2 r3 r4 r5 r6 r7 HC
                  obtain ⟨mid, ap, d4⟩ := pt
                  simp only [] at r1 r2 r3 r4 r5 r6 r7 HC
                  have H4 := Hid.mk' r4
                  have H5 := Hid.mk' r5
                  have H6 := Hid.mk' r6
                  have H7 := Hid.mk' r7
                  clear r3 r4 r5 r6 r7
                  obtain ⟨ll, hll⟩ : ∃ q : Nat, q = mid - a := ⟨_, rfl⟩
                  obtain ⟨rl, hrl⟩ : ∃ q : Nat, q = b - mid := ⟨_, rfl⟩
                  obtain ⟨m1, hm1⟩ : ∃ q : Nat, q = mid + 1 := ⟨_, rfl⟩
                  have zll : (mid : Int) - (a : Int) = (ll : Int) := by omega
                  have zrl : (b : Int) - (mid : Int) = (rl : Int) := by omega
                  have zm1 : (mid : Int) + 1 = (m1 : Int) := by omega
                  have hm1b : m1 ≤ b ∧ mid < m1 ∧ b - m1 < N ∧ mid - a < N ∧ b - m1 < 50 ∧ mid - a < 50 := by omega
                  rw [← hm1] at H5 H6 H7
                  have H_hll := Hid.mk' hll
                  clear hll
                  have H_hrl := Hid.mk' hrl
                  clear hrl
                  have H_hm1 := Hid.mk' hm1
                  clear hm1
                  go_wp2_with fail
                  refine HC.out.mono ?_
                  rintro e w8 ⟨rfl, h8⟩
                  have S8 := Hid.mk' h8
                  clear h8 HC
                  by_cases hlr : ll < rl
                  · have _hz := hlr
                    go_wp2_with fail
                    refine (IH.out a mid _ d4 w8 hm1b.2.2.2.1 r1 (by omega) hm1b.2.2.2.2.2 H4.out S8).mono ?_
                    rintro e w9 ⟨rfl, d5, hp5, hs5, S9⟩
                    have HB5 : Hid (Go.Sort.Below ltInt m1 b d5) := (H6.out d5 hp5.out hs5.out).1
                    have HF5 : Hid (∀ Q, PermIn m1 b d5 Q → SortedIn ltInt m1 b Q → PermIn a0 b0 d Q ∧ SortedIn ltInt a0 b0 Q) := fun Q h1 h2 => hFin.out Q (permIn_trans _ _ _ a b P0.out ((H6.out d5 hp5.out hs5.out).2 Q h1 h2).1) ((H6.out d5 hp5.out hs5.out).2 Q h1 h2).2
                    clear S8
                    go_wp2
                    go_roundw
                    case rel => exact ⟨m1, b, _, _, _, d5, rfl, rfl, rfl, rfl, rfl, by omega, hb, by omega, by omega, HB5, HF5, S9⟩
                    case measure => first | (simp [intOf]; done) | (simp [intOf]; omega)
                  · go_wp2_with fail
                    refine (IH.out m1 b _ d4 w8 hm1b.2.2.1 hm1b.1 hb hm1b.2.2.2.2.1 H5.out S8).mono ?_
                    rintro e w9 ⟨rfl, d5, hp5, hs5, S9⟩
                    have HB5 : Hid (Go.Sort.Below ltInt a mid d5) := (H7.out d5 hp5.out hs5.out).1
                    have HF5 : Hid (∀ Q, PermIn a mid d5 Q → SortedIn ltInt a mid Q → PermIn a0 b0 d Q ∧ SortedIn ltInt a0 b0 Q) := fun Q h1 h2 => hFin.out Q (permIn_trans _ _ _ a b P0.out ((H7.out d5 hp5.out hs5.out).2 Q h1 h2).1) ((H7.out d5 hp5.out hs5.out).2 Q h1 h2).2
                    clear S8
                    go_wp2
                    go_roundw
                    case rel => exact ⟨a, mid, _, _, _, d5, rfl, rfl, rfl, rfl, rfl, r1, by omega, by omega, by omega, HB5, HF5, S9⟩
                    case measure => first | (simp [intOf]; done) | (simp [intOf]; omega)
            · obtain ⟨cd, hcd⟩ : ∃ cd : Bool, cd = (decide (0 < a) && !ltInt dk[a - 1]! dk[p]!) := ⟨_, rfl⟩
              have HCD := Hid.mk' hcd
              clear hcd
              go_upto_region 17 with fail
              go_cut [87] from 73 to 86 (fun x wx => x = .bool cd ∧ Hid (St w0 blk off sz dk wx))
              case first =>
                have bp : (p : Int) < (sz : Int) := by omega
                by_cases ha0 : a = 0
                · have dg0 : decide ((0 : Int) < (a : Int)) = false := by simp; omega
                  have dg1 : decide (0 < a) = false := by simp; omega
                  have hX : cd = false := by rw [HCD.out, dg1]; rfl
                  clear hpa ha0
                  subst hX
                  go_wp2_with fail
                  go_region
                  have S8 : Hid (St w0 blk off sz dk (World.drew _)) := ⟨S3.out.len, SW.drew S3.out.sa⟩
                  go_wp2
                  go_meet
                  case rel => exact ⟨rfl, S8⟩
                · obtain ⟨k, rfl⟩ : ∃ k, a = k + 1 := ⟨a - 1, by omega⟩
                  have bk : (k : Int) < (sz : Int) := by omega
                  have wk : IntKind.i64.wrap (k : Int) = (k : Int) := by rw [IntKind.wrap_i64]; omega
                  have lk : k < sz ∧ p < sz := by omega
                  have dg0 : decide ((0 : Int) < (k : Int) + 1) = true := decide_eq_true (by omega)
                  cases hv : ltInt dk[k]! dk[p]! with
                  | true =>
                    have HV := Hid.mk' hv
                    clear hv
                    have hX : cd = false := by have := HCD.out; rw [Nat.add_sub_cancel, HV.out] at this; rw [this] <;> simp
                    subst hX
                    obtain ⟨x, y, la, lb, hxy⟩ := S3.out.sa.comp HR.out HZ.out S3.out.len (i := k) (j := p) lk.1 lk.2
                    have hd : decide (x < y) = true := by rw [← hxy.out]; exact HV.out
                    have hc := fun n os W => less_rune x y (grow (World.drewN W n) os)
                    clear hxy
                    go_wp2_with fail
                    go_quiet_grown (first | (go_at_call 70; refine Calls.grown_of (hc _ _ _)))
                    have S8 : Hid (St w0 blk off sz dk (grow (World.drewN _ nq) osq)) := ⟨S3.out.len, S3.out.sa.grown nq osq⟩
                    clear la lb hc
                    go_wp2
                    go_meet
                    case rel => exact ⟨rfl, S8⟩
                  | false =>
                    have HV := Hid.mk' hv
                    clear hv
                    have hX : cd = true := by have := HCD.out; rw [Nat.add_sub_cancel, HV.out] at this; rw [this] <;> simp
                    subst hX
                    obtain ⟨x, y, la, lb, hxy⟩ := S3.out.sa.comp HR.out HZ.out S3.out.len (i := k) (j := p) lk.1 lk.2
                    have hd : decide (x < y) = false := by rw [← hxy.out]; exact HV.out
                    have hc := fun n os W => less_rune x y (grow (World.drewN W n) os)
                    clear hxy
                    go_wp2_with fail
                    go_quiet_grown (first | (go_at_call 70; refine Calls.grown_of (hc _ _ _)))
                    have S8 : Hid (St w0 blk off sz dk (grow (World.drewN _ nq) osq)) := ⟨S3.out.len, S3.out.sa.grown nq osq⟩
                    clear la lb hc
                    go_wp2
                    go_meet
                    case rel => exact ⟨rfl, S8⟩
              case rest =>
                obtain ⟨rfl, S7⟩ := hcut
                clear S3
                cases cd with
                | true =>
                  have hq := HCD.out.symm
                  rw [Bool.and_eq_true, decide_eq_true_eq, Bool.not_eq_true'] at hq
                  obtain ⟨r1, r2, r3, r4, r5⟩ := round_eq swo_ltInt (partitionEqual_holds ltInt) hq.1 hpa.1 hpa.2 (by have := S7.out.len; omega) hB.out hq.2 (Prod.eta (partitionEqual ltInt dk a b p)).symm
                  have HC := Hid.mk' (C6.out a b p hpa.1 hpa.2 hb dk _ S7)
                  clear hq S7
                  generalize partitionEqual ltInt dk a b p = pe at r1 r2 r3 r4 r5 HC
                  obtain ⟨mid, d4⟩ := pe
                  simp only [] at r1 r2 r3 r4 r5 HC
                  have HB4 := Hid.mk' r4
                  have HF4 : Hid (∀ Q, PermIn mid b d4 Q → SortedIn ltInt mid b Q → PermIn a0 b0 d Q ∧ SortedIn ltInt a0 b0 Q) := fun Q h1 h2 => hFin.out Q (permIn_trans _ _ _ a b P0.out (r5 Q h1 h2).1) (r5 Q h1 h2).2
                  clear r3 r4 r5
                  go_wp2_with fail
                  refine HC.out.mono ?_
                  rintro e w8 ⟨rfl, h8⟩
                  have S8 := Hid.mk' h8
                  clear h8 HC
                  go_wp2
                  go_roundw
                  case rel => exact ⟨mid, b, _, _, _, d4, rfl, rfl, rfl, rfl, rfl, by omega, hb, by omega, by omega, HB4, HF4, S8⟩
                  case measure => first | (simp [intOf]; done) | (simp [intOf]; omega)
                | false =>
                  obtain ⟨r1, r2, r3, r4, r5, r6, r7⟩ := round_part (ap := (partition ltInt dk a b p).2.1) (d4 := (partition ltInt dk a b p).2.2) (mid := (partition ltInt dk a b p).1) swo_ltInt (partition_holds ltInt) hpa.1 hpa.2 (by have := S7.out.len; omega) hB.out rfl
                  have HC := Hid.mk' (C5.out a b p hpa.1 hpa.2 hb dk _ S7)
                  clear S7
                  generalize partition ltInt dk a b p = pt at r1 r2 r3 r4 r5 r6 r7 HC
                  obtain ⟨mid, ap, d4⟩ := pt
                  simp only [] at r1 r2 r3 r4 r5 r6 r7 HC
                  have H4 := Hid.mk' r4
                  have H5 := Hid.mk' r5
                  have H6 := Hid.mk' r6
                  have H7 := Hid.mk' r7
                  clear r3 r4 r5 r6 r7
                  obtain ⟨ll, hll⟩ : ∃ q : Nat, q = mid - a := ⟨_, rfl⟩
                  obtain ⟨rl, hrl⟩ : ∃ q : Nat, q = b - mid := ⟨_, rfl⟩
                  obtain ⟨m1, hm1⟩ : ∃ q : Nat, q = mid + 1 := ⟨_, rfl⟩
                  have zll : (mid : Int) - (a : Int) = (ll : Int) := by omega
                  have zrl : (b : Int) - (mid : Int) = (rl : Int) := by omega
                  have zm1 : (mid : Int) + 1 = (m1 : Int) := by omega
                  have hm1b : m1 ≤ b ∧ mid < m1 ∧ b - m1 < N ∧ mid - a < N ∧ b - m1 < 50 ∧ mid - a < 50 := by omega
                  rw [← hm1] at H5 H6 H7
                  have H_hll := Hid.mk' hll
                  clear hll
                  have H_hrl := Hid.mk' hrl
                  clear hrl
                  have H_hm1 := Hid.mk' hm1
                  clear hm1
                  go_wp2_with fail
                  refine HC.out.mono ?_
                  rintro e w8 ⟨rfl, h8⟩
                  have S8 := Hid.mk' h8
                  clear h8 HC
                  by_cases hlr : ll < rl
                  · have _hz := hlr
                    go_wp2_with fail
                    refine (IH.out a mid _ d4 w8 hm1b.2.2.2.1 r1 (by omega) hm1b.2.2.2.2.2 H4.out S8).mono ?_
                    rintro e w9 ⟨rfl, d5, hp5, hs5, S9⟩
                    have HB5 : Hid (Go.Sort.Below ltInt m1 b d5) := (H6.out d5 hp5.out hs5.out).1
                    have HF5 : Hid (∀ Q, PermIn m1 b d5 Q → SortedIn ltInt m1 b Q → PermIn a0 b0 d Q ∧ SortedIn ltInt a0 b0 Q) := fun Q h1 h2 => hFin.out Q (permIn_trans _ _ _ a b P0.out ((H6.out d5 hp5.out hs5.out).2 Q h1 h2).1) ((H6.out d5 hp5.out hs5.out).2 Q h1 h2).2
                    clear S8
                    go_wp2
                    go_roundw
                    case rel => exact ⟨m1, b, _, _, _, d5, rfl, rfl, rfl, rfl, rfl, by omega, hb, by omega, by omega, HB5, HF5, S9⟩
                    case measure => first | (simp [intOf]; done) | (simp [intOf]; omega)
                  · go_wp2_with fail
                    refine (IH.out m1 b _ d4 w8 hm1b.2.2.1 hm1b.1 hb hm1b.2.2.2.2.1 H5.out S8).mono ?_
                    rintro e w9 ⟨rfl, d5, hp5, hs5, S9⟩
                    have HB5 : Hid (Go.Sort.Below ltInt a mid d5) := (H7.out d5 hp5.out hs5.out).1
                    have HF5 : Hid (∀ Q, PermIn a mid d5 Q → SortedIn ltInt a mid Q → PermIn a0 b0 d Q ∧ SortedIn ltInt a0 b0 Q) := fun Q h1 h2 => hFin.out Q (permIn_trans _ _ _ a b P0.out ((H7.out d5 hp5.out hs5.out).2 Q h1 h2).1) ((H7.out d5 hp5.out hs5.out).2 Q h1 h2).2
                    clear S8
                    go_wp2
                    go_roundw
                    case rel => exact ⟨a, mid, _, _, _, d5, rfl, rfl, rfl, rfl, rfl, r1, by omega, by omega, by omega, HB5, HF5, S9⟩
                    case measure => first | (simp [intOf]; done) | (simp [intOf]; omega)
          | true =>
            go_wp2_with fail
            refine (C9.out a b (by omega) hb h50 dk _ S).mono ?_
            rintro e w3 ⟨p, h, rfl, hp1, hp2, hh, S3⟩
            have hpa : a ≤ p ∧ p < b := ⟨hp1, hp2⟩
            clear hp1 hp2
            rcases (by omega : h = 0 ∨ h = 1) with rfl | rfl
            · obtain ⟨cd, hcd⟩ : ∃ cd : Bool, cd = (decide (0 < a) && !ltInt dk[a - 1]! dk[p]!) := ⟨_, rfl⟩
              have HCD := Hid.mk' hcd
              clear hcd
              go_upto_region 17 with fail
              go_cut [87] from 73 to 86 (fun x wx => x = .bool cd ∧ Hid (St w0 blk off sz dk wx))
              case first =>
                have bp : (p : Int) < (sz : Int) := by omega
                by_cases ha0 : a = 0
                · have dg0 : decide ((0 : Int) < (a : Int)) = false := by simp; omega
                  have dg1 : decide (0 < a) = false := by simp; omega
                  have hX : cd = false := by rw [HCD.out, dg1]; rfl
                  clear hpa ha0
                  subst hX
                  go_wp2_with fail
                  go_region
                  have S8 : Hid (St w0 blk off sz dk (World.drew _)) := ⟨S3.out.len, SW.drew S3.out.sa⟩
                  go_wp2
                  go_meet
                  case rel => exact ⟨rfl, S8⟩
                · obtain ⟨k, rfl⟩ : ∃ k, a = k + 1 := ⟨a - 1, by omega⟩
                  have bk : (k : Int) < (sz : Int) := by omega
                  have wk : IntKind.i64.wrap (k : Int) = (k : Int) := by rw [IntKind.wrap_i64]; omega
                  have lk : k < sz ∧ p < sz := by omega
                  have dg0 : decide ((0 : Int) < (k : Int) + 1) = true := decide_eq_true (by omega)
                  cases hv : ltInt dk[k]! dk[p]! with
                  | true =>
                    have HV := Hid.mk' hv
                    clear hv
                    have hX : cd = false := by have := HCD.out; rw [Nat.add_sub_cancel, HV.out] at this; rw [this] <;> simp
                    subst hX
                    obtain ⟨x, y, la, lb, hxy⟩ := S3.out.sa.comp HR.out HZ.out S3.out.len (i := k) (j := p) lk.1 lk.2
                    have hd : decide (x < y) = true := by rw [← hxy.out]; exact HV.out
                    have hc := fun n os W => less_rune x y (grow (World.drewN W n) os)
                    clear hxy
                    go_wp2_with fail
                    go_quiet_grown (first | (go_at_call 70; refine Calls.grown_of (hc _ _ _)))
                    have S8 : Hid (St w0 blk off sz dk (grow (World.drewN _ nq) osq)) := ⟨S3.out.len, S3.out.sa.grown nq osq⟩
                    clear la lb hc
                    go_wp2
                    go_meet
                    case rel => exact ⟨rfl, S8⟩
                  | false =>
                    have HV := Hid.mk' hv
                    clear hv
                    have hX : cd = true := by have := HCD.out; rw [Nat.add_sub_cancel, HV.out] at this; rw [this] <;> simp
                    subst hX
                    obtain ⟨x, y, la, lb, hxy⟩ := S3.out.sa.comp HR.out HZ.out S3.out.len (i := k) (j := p) lk.1 lk.2
                    have hd : decide (x < y) = false := by rw [← hxy.out]; exact HV.out
                    have hc := fun n os W => less_rune x y (grow (World.drewN W n) os)
                    clear hxy
                    go_wp2_with fail
                    go_quiet_grown (first | (go_at_call 70; refine Calls.grown_of (hc _ _ _)))
                    have S8 : Hid (St w0 blk off sz dk (grow (World.drewN _ nq) osq)) := ⟨S3.out.len, S3.out.sa.grown nq osq⟩
                    clear la lb hc
                    go_wp2
                    go_meet
                    case rel => exact ⟨rfl, S8⟩
              case rest =>
                obtain ⟨rfl, S7⟩ := hcut
                clear S3
                cases cd with
                | true =>
                  have hq := HCD.out.symm
                  rw [Bool.and_eq_true, decide_eq_true_eq, Bool.not_eq_true'] at hq
                  obtain ⟨r1, r2, r3, r4, r5⟩ := round_eq swo_ltInt (partitionEqual_holds ltInt) hq.1 hpa.1 hpa.2 (by have := S7.out.len; omega) hB.out hq.2 (Prod.eta (partitionEqual ltInt dk a b p)).symm
                  have HC := Hid.mk' (C6.out a b p hpa.1 hpa.2 hb dk _ S7)
                  clear hq S7
                  generalize partitionEqual ltInt dk a b p = pe at r1 r2 r3 r4 r5 HC
                  obtain ⟨mid, d4⟩ := pe
                  simp only [] at r1 r2 r3 r4 r5 HC
                  have HB4 := Hid.mk' r4
                  have HF4 : Hid (∀ Q, PermIn mid b d4 Q → SortedIn ltInt mid b Q → PermIn a0 b0 d Q ∧ SortedIn ltInt a0 b0 Q) := fun Q h1 h2 => hFin.out Q (permIn_trans _ _ _ a b P0.out (r5 Q h1 h2).1) (r5 Q h1 h2).2
                  clear r3 r4 r5
                  go_wp2_with fail
                  refine HC.out.mono ?_
                  rintro e w8 ⟨rfl, h8⟩
                  have S8 := Hid.mk' h8
                  clear h8 HC
                  go_wp2
                  go_roundw
                  case rel => exact ⟨mid, b, _, _, _, d4, rfl, rfl, rfl, rfl, rfl, by omega, hb, by omega, by omega, HB4, HF4, S8⟩
                  case measure => first | (simp [intOf]; done) | (simp [intOf]; omega)
                | false =>
                  obtain ⟨r1, r2, r3, r4, r5, r6, r7⟩ := round_part (ap := (partition ltInt dk a b p).2.1) (d4 := (partition ltInt dk a b p).2.2) (mid := (partition ltInt dk a b p).1) swo_ltInt (partition_holds ltInt) hpa.1 hpa.2 (by have := S7.out.len; omega) hB.out rfl
                  have HC := Hid.mk' (C5.out a b p hpa.1 hpa.2 hb dk _ S7)
                  clear S7
                  generalize partition ltInt dk a b p = pt at r1 r2 r3 r4 r5 r6 r7 HC
                  obtain ⟨mid, ap, d4⟩ := pt
                  simp only [] at r1 r2 r3 r4 r5 r6 r7 HC
                  have H4 := Hid.mk' r4
                  have H5 := Hid.mk' r5
                  have H6 := Hid.mk' r6
                  have H7 := Hid.mk' r7
                  clear r3 r4 r5 r6 r7
                  obtain ⟨ll, hll⟩ : ∃ q : Nat, q = mid - a := ⟨_, rfl⟩
                  obtain ⟨rl, hrl⟩ : ∃ q : Nat, q = b - mid := ⟨_, rfl⟩
                  obtain ⟨m1, hm1⟩ : ∃ q : Nat, q = mid + 1 := ⟨_, rfl⟩
                  have zll : (mid : Int) - (a : Int) = (ll : Int) := by omega
                  have zrl : (b : Int) - (mid : Int) = (rl : Int) := by omega
                  have zm1 : (mid : Int) + 1 = (m1 : Int) := by omega
                  have hm1b : m1 ≤ b ∧ mid < m1 ∧ b - m1 < N ∧ mid - a < N ∧ b - m1 < 50 ∧ mid - a < 50 := by omega
                  rw [← hm1] at H5 H6 H7
                  have H_hll := Hid.mk' hll
                  clear hll
                  have H_hrl := Hid.mk' hrl
                  clear hrl
                  have H_hm1 := Hid.mk' hm1
                  clear hm1
                  go_wp2_with fail
                  refine HC.out.mono ?_
                  rintro e w8 ⟨rfl, h8⟩
                  have S8 := Hid.mk' h8
                  clear h8 HC
                  by_cases hlr : ll < rl
                  · have _hz := hlr
                    go_wp2_with fail
                    refine (IH.out a mid _ d4 w8 hm1b.2.2.2.1 r1 (by omega) hm1b.2.2.2.2.2 H4.out S8).mono ?_
                    rintro e w9 ⟨rfl, d5, hp5, hs5, S9⟩
                    have HB5 : Hid (Go.Sort.Below ltInt m1 b d5) := (H6.out d5 hp5.out hs5.out).1
                    have HF5 : Hid (∀ Q, PermIn m1 b d5 Q → SortedIn ltInt m1 b Q → PermIn a0 b0 d Q ∧ SortedIn ltInt a0 b0 Q) := fun Q h1 h2 => hFin.out Q (permIn_trans _ _ _ a b P0.out ((H6.out d5 hp5.out hs5.out).2 Q h1 h2).1) ((H6.out d5 hp5.out hs5.out).2 Q h1 h2).2
                    clear S8
                    go_wp2
                    go_roundw
                    case rel => exact ⟨m1, b, _, _, _, d5, rfl, rfl, rfl, rfl, rfl, by omega, hb, by omega, by omega, HB5, HF5, S9⟩
                    case measure => first | (simp [intOf]; done) | (simp [intOf]; omega)
                  · go_wp2_with fail
                    refine (IH.out m1 b _ d4 w8 hm1b.2.2.1 hm1b.1 hb hm1b.2.2.2.2.1 H5.out S8).mono ?_
                    rintro e w9 ⟨rfl, d5, hp5, hs5, S9⟩
                    have HB5 : Hid (Go.Sort.Below ltInt a mid d5) := (H7.out d5 hp5.out hs5.out).1
                    have HF5 : Hid (∀ Q, PermIn a mid d5 Q → SortedIn ltInt a mid Q → PermIn a0 b0 d Q ∧ SortedIn ltInt a0 b0 Q) := fun Q h1 h2 => hFin.out Q (permIn_trans _ _ _ a b P0.out ((H7.out d5 hp5.out hs5.out).2 Q h1 h2).1) ((H7.out d5 hp5.out hs5.out).2 Q h1 h2).2
                    clear S8
                    go_wp2
                    go_roundw
                    case rel => exact ⟨a, mid, _, _, _, d5, rfl, rfl, rfl, rfl, rfl, r1, by omega, by omega, by omega, HB5, HF5, S9⟩
                    case measure => first | (simp [intOf]; done) | (simp [intOf]; omega)
            · have HC := Hid.mk' (C7.out a b (by omega) hb h50 dk w3 S3)
              have HP := Hid.mk' (partialInsertionSort_holds (lt := ltInt) swo_ltInt dk a b (by omega) (by have := S3.out.len; omega) hB.out)
              have HPE : Hid ((partialInsertionSort ltInt dk a b).1 = dk) := partial_same dk a b h50
              clear S3
              go_wp2_with fail
              refine HC.out.mono ?_
              rintro e w4 ⟨rfl, h4⟩
              rw [HPE.out] at h4
              have S3 := Hid.mk' h4
              clear h4 HC
              rw [HPE.out] at HP
              cases hr : (partialInsertionSort ltInt dk a b).2 with
              | true =>
                rw [hr] at HP
                have HQ : Hid (PermIn a0 b0 d dk ∧ SortedIn ltInt a0 b0 dk) := hFin.out dk P0.out (HP.out.2 rfl)
                clear hr HP
                go_wp2
                (try simp only [Exit.inBlock, Exit.then]); refine bodyPost_ret (results_none rfl _ _ _) rfl ?_
                exact ⟨rfl, _, HQ.out.1, HQ.out.2, S3⟩
              | false =>
                clear HP
                obtain ⟨cd, hcd⟩ : ∃ cd : Bool, cd = (decide (0 < a) && !ltInt dk[a - 1]! dk[p]!) := ⟨_, rfl⟩
                have HCD := Hid.mk' hcd
                clear hcd
                go_upto_region 17 with fail
                go_cut [87] from 73 to 86 (fun x wx => x = .bool cd ∧ Hid (St w0 blk off sz dk wx))
                case first =>
                  have bp : (p : Int) < (sz : Int) := by omega
                  by_cases ha0 : a = 0
                  · have dg0 : decide ((0 : Int) < (a : Int)) = false := by simp; omega
                    have dg1 : decide (0 < a) = false := by simp; omega
                    have hX : cd = false := by rw [HCD.out, dg1]; rfl
                    clear hpa ha0
                    subst hX
                    go_wp2_with fail
                    go_region
                    have S8 : Hid (St w0 blk off sz dk (World.drew _)) := ⟨S3.out.len, SW.drew S3.out.sa⟩
                    go_wp2
                    go_meet
                    case rel => exact ⟨rfl, S8⟩
                  · obtain ⟨k, rfl⟩ : ∃ k, a = k + 1 := ⟨a - 1, by omega⟩
                    have bk : (k : Int) < (sz : Int) := by omega
                    have wk : IntKind.i64.wrap (k : Int) = (k : Int) := by rw [IntKind.wrap_i64]; omega
                    have lk : k < sz ∧ p < sz := by omega
                    have dg0 : decide ((0 : Int) < (k : Int) + 1) = true := decide_eq_true (by omega)
                    cases hv : ltInt dk[k]! dk[p]! with
                    | true =>
                      have HV := Hid.mk' hv
                      clear hv
                      have hX : cd = false := by have := HCD.out; rw [Nat.add_sub_cancel, HV.out] at this; rw [this] <;> simp
                      subst hX
                      obtain ⟨x, y, la, lb, hxy⟩ := S3.out.sa.comp HR.out HZ.out S3.out.len (i := k) (j := p) lk.1 lk.2
                      have hd : decide (x < y) = true := by rw [← hxy.out]; exact HV.out
                      have hc := fun n os W => less_rune x y (grow (World.drewN W n) os)
                      clear hxy
                      go_wp2_with fail
                      go_quiet_grown (first | (go_at_call 70; refine Calls.grown_of (hc _ _ _)))
                      have S8 : Hid (St w0 blk off sz dk (grow (World.drewN _ nq) osq)) := ⟨S3.out.len, S3.out.sa.grown nq osq⟩
                      clear la lb hc
                      go_wp2
                      go_meet
                      case rel => exact ⟨rfl, S8⟩
                    | false =>
                      have HV := Hid.mk' hv
                      clear hv
                      have hX : cd = true := by have := HCD.out; rw [Nat.add_sub_cancel, HV.out] at this; rw [this] <;> simp
                      subst hX
                      obtain ⟨x, y, la, lb, hxy⟩ := S3.out.sa.comp HR.out HZ.out S3.out.len (i := k) (j := p) lk.1 lk.2
                      have hd : decide (x < y) = false := by rw [← hxy.out]; exact HV.out
                      have hc := fun n os W => less_rune x y (grow (World.drewN W n) os)
                      clear hxy
                      go_wp2_with fail
                      go_quiet_grown (first | (go_at_call 70; refine Calls.grown_of (hc _ _ _)))
                      have S8 : Hid (St w0 blk off sz dk (grow (World.drewN _ nq) osq)) := ⟨S3.out.len, S3.out.sa.grown nq osq⟩
                      clear la lb hc
                      go_wp2
                      go_meet
                      case rel => exact ⟨rfl, S8⟩
                case rest =>
                  obtain ⟨rfl, S7⟩ := hcut
                  clear S3
                  cases cd with
                  | true =>
                    have hq := HCD.out.symm
                    rw [Bool.and_eq_true, decide_eq_true_eq, Bool.not_eq_true'] at hq
                    obtain ⟨r1, r2, r3, r4, r5⟩ := round_eq swo_ltInt (partitionEqual_holds ltInt) hq.1 hpa.1 hpa.2 (by have := S7.out.len; omega) hB.out hq.2 (Prod.eta (partitionEqual ltInt dk a b p)).symm
                    have HC := Hid.mk' (C6.out a b p hpa.1 hpa.2 hb dk _ S7)
                    clear hq S7
                    generalize partitionEqual ltInt dk a b p = pe at r1 r2 r3 r4 r5 HC
                    obtain ⟨mid, d4⟩ := pe
                    simp only [] at r1 r2 r3 r4 r5 HC
                    have HB4 := Hid.mk' r4
                    have HF4 : Hid (∀ Q, PermIn mid b d4 Q → SortedIn ltInt mid b Q → PermIn a0 b0 d Q ∧ SortedIn ltInt a0 b0 Q) := fun Q h1 h2 => hFin.out Q (permIn_trans _ _ _ a b P0.out (r5 Q h1 h2).1) (r5 Q h1 h2).2
                    clear r3 r4 r5
                    go_wp2_with fail
                    refine HC.out.mono ?_
                    rintro e w8 ⟨rfl, h8⟩
                    have S8 := Hid.mk' h8
                    clear h8 HC
                    go_wp2
                    go_roundw
                    case rel => exact ⟨mid, b, _, _, _, d4, rfl, rfl, rfl, rfl, rfl, by omega, hb, by omega, by omega, HB4, HF4, S8⟩
                    case measure => first | (simp [intOf]; done) | (simp [intOf]; omega)
                  | false =>
                    obtain ⟨r1, r2, r3, r4, r5, r6, r7⟩ := round_part (ap := (partition ltInt dk a b p).2.1) (d4 := (partition ltInt dk a b p).2.2) (mid := (partition ltInt dk a b p).1) swo_ltInt (partition_holds ltInt) hpa.1 hpa.2 (by have := S7.out.len; omega) hB.out rfl
                    have HC := Hid.mk' (C5.out a b p hpa.1 hpa.2 hb dk _ S7)
                    clear S7
                    generalize partition ltInt dk a b p = pt at r1 r2 r3 r4 r5 r6 r7 HC
                    obtain ⟨mid, ap, d4⟩ := pt
                    simp only [] at r1 r2 r3 r4 r5 r6 r7 HC
                    have H4 := Hid.mk' r4
                    have H5 := Hid.mk' r5
                    have H6 := Hid.mk' r6
                    have H7 := Hid.mk' r7
                    clear r3 r4 r5 r6 r7
                    obtain ⟨ll, hll⟩ : ∃ q : Nat, q = mid - a := ⟨_, rfl⟩
                    obtain ⟨rl, hrl⟩ : ∃ q : Nat, q = b - mid := ⟨_, rfl⟩
                    obtain ⟨m1, hm1⟩ : ∃ q : Nat, q = mid + 1 := ⟨_, rfl⟩
                    have zll : (mid : Int) - (a : Int) = (ll : Int) := by omega
                    have zrl : (b : Int) - (mid : Int) = (rl : Int) := by omega
                    have zm1 : (mid : Int) + 1 = (m1 : Int) := by omega
                    have hm1b : m1 ≤ b ∧ mid < m1 ∧ b - m1 < N ∧ mid - a < N ∧ b - m1 < 50 ∧ mid - a < 50 := by omega
                    rw [← hm1] at H5 H6 H7
                    have H_hll := Hid.mk' hll
                    clear hll
                    have H_hrl := Hid.mk' hrl
                    clear hrl
                    have H_hm1 := Hid.mk' hm1
                    clear hm1
                    go_wp2_with fail
                    refine HC.out.mono ?_
                    rintro e w8 ⟨rfl, h8⟩
                    have S8 := Hid.mk' h8
                    clear h8 HC
                    by_cases hlr : ll < rl
                    · have _hz := hlr
                      go_wp2_with fail
                      refine (IH.out a mid _ d4 w8 hm1b.2.2.2.1 r1 (by omega) hm1b.2.2.2.2.2 H4.out S8).mono ?_
                      rintro e w9 ⟨rfl, d5, hp5, hs5, S9⟩
                      have HB5 : Hid (Go.Sort.Below ltInt m1 b d5) := (H6.out d5 hp5.out hs5.out).1
                      have HF5 : Hid (∀ Q, PermIn m1 b d5 Q → SortedIn ltInt m1 b Q → PermIn a0 b0 d Q ∧ SortedIn ltInt a0 b0 Q) := fun Q h1 h2 => hFin.out Q (permIn_trans _ _ _ a b P0.out ((H6.out d5 hp5.out hs5.out).2 Q h1 h2).1) ((H6.out d5 hp5.out hs5.out).2 Q h1 h2).2
                      clear S8
                      go_wp2
                      go_roundw
                      case rel => exact ⟨m1, b, _, _, _, d5, rfl, rfl, rfl, rfl, rfl, by omega, hb, by omega, by omega, HB5, HF5, S9⟩
                      case measure => first | (simp [intOf]; done) | (simp [intOf]; omega)
                    · go_wp2_with fail
                      refine (IH.out m1 b _ d4 w8 hm1b.2.2.1 hm1b.1 hb hm1b.2.2.2.2.1 H5.out S8).mono ?_
                      rintro e w9 ⟨rfl, d5, hp5, hs5, S9⟩
                      have HB5 : Hid (Go.Sort.Below ltInt a mid d5) := (H7.out d5 hp5.out hs5.out).1
                      have HF5 : Hid (∀ Q, PermIn a mid d5 Q → SortedIn ltInt a mid Q → PermIn a0 b0 d Q ∧ SortedIn ltInt a0 b0 Q) := fun Q h1 h2 => hFin.out Q (permIn_trans _ _ _ a b P0.out ((H7.out d5 hp5.out hs5.out).2 Q h1 h2).1) ((H7.out d5 hp5.out hs5.out).2 Q h1 h2).2
                      clear S8
                      go_wp2
                      go_roundw
                      case rel => exact ⟨a, mid, _, _, _, d5, rfl, rfl, rfl, rfl, rfl, r1, by omega, by omega, by omega, HB5, HF5, S9⟩
                      case measure => first | (simp [intOf]; done) | (simp [intOf]; omega)
end Go.Proofs.YtlnehhfljjeifaaDoor

/-
  What is proved here: slices.siftDownOrdered at runes computes the plain sifting down.
-/
import Derived.Test.YtlnehhfljjeifaaGreatDoorH0
namespace Go.Proofs.YtlnehhfljjeifaaGreatDoor
open Go.RowKit Go.Sort

set_option maxRecDepth 20000 in
set_option maxHeartbeats 8000000 in
theorem sift_any (w0 : World) (blk off cap : Nat) (d0 : Array Int) (R : RA w0 blk off d0) (sz : Nat) (hsz : d0.size = sz) (hs : sz ≤ 1073741824) (lo hi first : Nat) (hlo : lo ≤ hi) (hfi : first + hi ≤ sz) (d : Array Int) (w : World) (S : Hid (St w0 blk off sz d w)) :
    Calls Tryz.prog 174 #[.slice (some ⟨blk, off, none⟩) sz cap, .int .i64 lo, .int .i64 hi, .int .i64 first] w fun e w' => e = .returned (.tuple #[]) ∧ St w0 blk off sz (siftDown ltInt hi first lo d) w' := by
  have mixed : Tryz.prog.follows .mixedOrders = true := by kernel_rfl
  have HR := Hid.mk' R
  have HZ := Hid.mk' hsz
  obtain ⟨T, hT⟩ : ∃ T, siftDown ltInt hi first lo d = T := ⟨_, rfl⟩
  have H0 : Hid (siftDown ltInt hi first lo d = T) := hT
  rw [hT]
  clear R hsz hT
  go_enter Tryz.func174, Tryz.ntmps174
  go_wp2
  go_loopw [8] (fun x wr => ∃ (root : Nat) (dk : Array Int), x = .int .i64 root ∧ root ≤ hi ∧ Hid (siftDown ltInt hi first root dk = T) ∧ Hid (St w0 blk off sz dk wr)) (fun x _ => hi - (intOf x).toNat)
  case atStart => exact ⟨lo, d, rfl, hlo, H0, S⟩
  case round =>
    clear H0 S
    obtain ⟨root, dk, rfl, hro, hI, S⟩ := hrel
    obtain ⟨ch, hch⟩ : ∃ ch : Nat, ch = 2 * root + 1 := ⟨_, rfl⟩
    have hcz : 2 * (root : Int) + 1 = (ch : Int) := by omega
    have H_hch := Hid.mk' hch
    by_cases hc : hi ≤ ch
    · have HX : Hid (dk = T) := by have := hI.out; rw [sd_end ltInt dk (by omega)] at this; exact this
      clear hch
      go_wp2
      go_end0
      exact ⟨rfl, by rw [← HX.out]; exact S.out⟩
    · obtain ⟨cd, hcd⟩ : ∃ q : Nat, q = ch + 1 := ⟨_, rfl⟩
      have rcd : IntKind.i64.wrap ((ch : Int) + 1) = (ch : Int) + 1 := by rw [IntKind.wrap_i64]; omega
      have hcdz : Hid ((ch : Int) + 1 = (cd : Int)) := by show _ = _; omega
      have hsum : Hid (2 * root + 2 = cd) := by show _ = _; omega
      have hcr : root < ch := by omega
      by_cases hc2 : cd < hi
      · have dg : decide ((ch : Int) + 1 < (hi : Int)) = true := by simp; omega
        have hc2q : 2 * root + 2 < hi := by omega
        obtain ⟨fc, hfc⟩ : ∃ q, q = first + ch := ⟨_, rfl⟩
        obtain ⟨fd, hfd⟩ : ∃ q, q = first + cd := ⟨_, rfl⟩
        have rfc : IntKind.i64.wrap ((first : Int) + (ch : Int)) = (first : Int) + (ch : Int) := by rw [IntKind.wrap_i64]; omega
        have pfc : (0 : Int) ≤ (first : Int) + (ch : Int) := by omega
        have bfc : (first : Int) + (ch : Int) < (sz : Int) := by omega
        have efc : ((first : Int) + (ch : Int)).toNat = fc := by omega
        have rfd : IntKind.i64.wrap ((first : Int) + (ch : Int) + 1) = (first : Int) + (ch : Int) + 1 := by rw [IntKind.wrap_i64]; omega
        have pfd : (0 : Int) ≤ (first : Int) + (ch : Int) + 1 := by omega
        have bfd : (first : Int) + (ch : Int) + 1 < (sz : Int) := by omega
        have efd : ((first : Int) + (ch : Int) + 1).toNat = fd := by omega
        have lfc : fc < sz := by omega
        have lfd : fd < sz := by omega
        have HQ : Hid (2 * root + 1 < hi ∧ 2 * root + 2 < hi) := ⟨by omega, by omega⟩
        clear hc2q
        have H_hfc := Hid.mk' hfc
        clear hfc
        have H_hfd := Hid.mk' hfd
        clear hfd
        have H_hcd := Hid.mk' hcd
        clear hcd
        clear hch
        cases hv : ltInt dk[fc]! dk[fd]! with
        | true =>
          have HV := Hid.mk' hv
          clear hv
          obtain ⟨x, y, la, lb, hxy⟩ := S.out.sa.comp HR.out HZ.out S.out.len (i := fc) (j := fd) (by omega) (by omega)
          have hd : decide (x < y) = true := by rw [← hxy.out]; exact HV.out
          have hc := fun n os => less_rune x y (grow (wr.drewN n) os)
          clear hxy
          go_wp2_with fail
          go_quiet_grown (first | (go_at_call 164; refine Calls.grown_of (hc _ _)))
          have S4 : Hid (St w0 blk off sz (dk) (grow (wr.drewN nq) osq)) := ⟨S.out.len, S.out.sa.grown nq osq⟩
          clear la lb hc
          generalize grow (wr.drewN nq) osq = w4 at S4 ⊢
          clear nq osq
          have hxy2 : x < y := of_decide_eq_true hd
          clear rfc pfc bfc efc rfd pfd bfd efd
          clear dg rcd
          have hcdz2 := hcdz.out
          obtain ⟨fr, hfr⟩ : ∃ q, q = first + root := ⟨_, rfl⟩
          obtain ⟨fx, hfx⟩ : ∃ q, q = first + cd := ⟨_, rfl⟩
          have rfr : IntKind.i64.wrap ((first : Int) + (root : Int)) = (first : Int) + (root : Int) := by rw [IntKind.wrap_i64]; omega
          have pfr : (0 : Int) ≤ (first : Int) + (root : Int) := by omega
          have bfr : (first : Int) + (root : Int) < (sz : Int) := by omega
          have efr : ((first : Int) + (root : Int)).toNat = fr := by omega
          have rfx : IntKind.i64.wrap ((first : Int) + (cd : Int)) = (first : Int) + (cd : Int) := by rw [IntKind.wrap_i64]; omega
          have pfx : (0 : Int) ≤ (first : Int) + (cd : Int) := by omega
          have bfx : (first : Int) + (cd : Int) < (sz : Int) := by omega
          have efx : ((first : Int) + (cd : Int)).toNat = fx := by omega
          have lfr : fr < sz := by omega
          have lfx : fx < sz := by omega
          have lc2 : cd ≤ hi := by omega
          have H_hfr := Hid.mk' hfr
          clear hfr
          have H_hfx := Hid.mk' hfx
          clear hfx
          cases hv2 : ltInt dk[fr]! dk[fx]! with
          | false =>
            have HX : Hid (dk = T) := by have := hI.out; rw [sd_right_stop ltInt dk HQ.out.2 (by rw [← H_hch.out, hsum.out, ← H_hfc.out, ← H_hfd.out]; exact HV.out) (by rw [← H_hfr.out, hsum.out, ← H_hfx.out]; exact hv2)] at this; exact this
            have HV2 := Hid.mk' hv2
            clear hv2
            obtain ⟨x, y, la, lb, hxy⟩ := S4.out.sa.comp HR.out HZ.out S4.out.len (i := fr) (j := fx) (by omega) (by omega)
            have hd : decide (x < y) = false := by rw [← hxy.out]; exact HV2.out
            have hc := fun n os => less_rune x y (grow (w4.drewN n) os)
            clear hxy
            go_wp2_with fail
            go_quiet_grown (first | (go_at_call 164; refine Calls.grown_of (hc _ _)))
            have S5 : Hid (St w0 blk off sz (dk) (grow (w4.drewN nq) osq)) := ⟨S4.out.len, S4.out.sa.grown nq osq⟩
            clear la lb hc
            generalize grow (w4.drewN nq) osq = w5 at S5 ⊢
            clear nq osq
            have hxy2 : y ≤ x := by have := of_decide_eq_false hd; omega
            clear rfr pfr bfr efr rfx pfx bfx efx
            go_wp2
            (try simp only [Exit.inBlock, Exit.then]); refine bodyPost_ret (results_none rfl _ _ _) rfl ?_
            exact ⟨rfl, by rw [← HX.out]; exact S5.out⟩
          | true =>
            have HN : Hid (siftDown ltInt hi first cd (swp dk fr fx) = T) := by have := hI.out; rw [sd_right_go ltInt dk HQ.out.2 (by rw [← H_hch.out, hsum.out, ← H_hfc.out, ← H_hfd.out]; exact HV.out) (by rw [← H_hfr.out, hsum.out, ← H_hfx.out]; exact hv2), hsum.out] at this; rw [H_hfr.out, H_hfx.out]; exact this
            have HV2 := Hid.mk' hv2
            clear hv2
            obtain ⟨x, y, la, lb, hxy⟩ := S4.out.sa.comp HR.out HZ.out S4.out.len (i := fr) (j := fx) (by omega) (by omega)
            have hd : decide (x < y) = true := by rw [← hxy.out]; exact HV2.out
            have hc := fun n os => less_rune x y (grow (w4.drewN n) os)
            clear hxy
            go_wp2_with fail
            go_quiet_grown (first | (go_at_call 164; refine Calls.grown_of (hc _ _)))
            have S5 : Hid (St w0 blk off sz (dk) (grow (w4.drewN nq) osq)) := ⟨S4.out.len, S4.out.sa.grown nq osq⟩
            clear la lb hc
            generalize grow (w4.drewN nq) osq = w5 at S5 ⊢
            clear nq osq
            have hxy2 : x < y := of_decide_eq_true hd
            obtain ⟨x1, y1, u1, ca, cb, cc, fa, fb, S6⟩ := S5.out.sa.exch HR.out HZ.out S5.out.len (i := fr) (j := fx) (by omega) (by omega)
            go_wp2
            go_region
            generalize ((w5.setCell ⟨blk, off + fr, none⟩ (.int .i32 y1)).setCell ⟨blk, off + fx, none⟩ (.int .i32 x1)).drew = w6 at S6 ⊢
            clear ca cb cc fa fb
            clear rfr pfr bfr efr rfx pfx bfx efx
            go_wp2
            go_roundw
            case rel => exact ⟨cd, swp dk fr fx, rfl, by omega, HN, S6⟩
            case measure => first | (simp [intOf]; done) | (simp [intOf]; omega)
        | false =>
          have HV := Hid.mk' hv
          clear hv
          obtain ⟨x, y, la, lb, hxy⟩ := S.out.sa.comp HR.out HZ.out S.out.len (i := fc) (j := fd) (by omega) (by omega)
          have hd : decide (x < y) = false := by rw [← hxy.out]; exact HV.out
          have hc := fun n os => less_rune x y (grow (wr.drewN n) os)
          clear hxy
          go_wp2_with fail
          go_quiet_grown (first | (go_at_call 164; refine Calls.grown_of (hc _ _)))
          have S4 : Hid (St w0 blk off sz (dk) (grow (wr.drewN nq) osq)) := ⟨S.out.len, S.out.sa.grown nq osq⟩
          clear la lb hc
          generalize grow (wr.drewN nq) osq = w4 at S4 ⊢
          clear nq osq
          have hxy2 : y ≤ x := by have := of_decide_eq_false hd; omega
          clear rfc pfc bfc efc rfd pfd bfd efd
          clear dg rcd
          obtain ⟨fr, hfr⟩ : ∃ q, q = first + root := ⟨_, rfl⟩
          obtain ⟨fx, hfx⟩ : ∃ q, q = first + ch := ⟨_, rfl⟩
          have rfr : IntKind.i64.wrap ((first : Int) + (root : Int)) = (first : Int) + (root : Int) := by rw [IntKind.wrap_i64]; omega
          have pfr : (0 : Int) ≤ (first : Int) + (root : Int) := by omega
          have bfr : (first : Int) + (root : Int) < (sz : Int) := by omega
          have efr : ((first : Int) + (root : Int)).toNat = fr := by omega
          have rfx : IntKind.i64.wrap ((first : Int) + (ch : Int)) = (first : Int) + (ch : Int) := by rw [IntKind.wrap_i64]; omega
          have pfx : (0 : Int) ≤ (first : Int) + (ch : Int) := by omega
          have bfx : (first : Int) + (ch : Int) < (sz : Int) := by omega
          have efx : ((first : Int) + (ch : Int)).toNat = fx := by omega
          have lfr : fr < sz := by omega
          have lfx : fx < sz := by omega
          have lc2 : ch ≤ hi := by omega
          have H_hfr := Hid.mk' hfr
          clear hfr
          have H_hfx := Hid.mk' hfx
          clear hfx
          cases hv2 : ltInt dk[fr]! dk[fx]! with
          | false =>
            have HX : Hid (dk = T) := by have := hI.out; rw [sd_left_stop ltInt dk HQ.out.1 (fun _ => by rw [← H_hch.out, hsum.out, ← H_hfc.out, ← H_hfd.out]; exact HV.out) (by rw [← H_hfr.out, ← H_hch.out, ← H_hfx.out]; exact hv2)] at this; exact this
            have HV2 := Hid.mk' hv2
            clear hv2
            obtain ⟨x, y, la, lb, hxy⟩ := S4.out.sa.comp HR.out HZ.out S4.out.len (i := fr) (j := fx) (by omega) (by omega)
            have hd : decide (x < y) = false := by rw [← hxy.out]; exact HV2.out
            have hc := fun n os => less_rune x y (grow (w4.drewN n) os)
            clear hxy
            go_wp2_with fail
            go_quiet_grown (first | (go_at_call 164; refine Calls.grown_of (hc _ _)))
            have S5 : Hid (St w0 blk off sz (dk) (grow (w4.drewN nq) osq)) := ⟨S4.out.len, S4.out.sa.grown nq osq⟩
            clear la lb hc
            generalize grow (w4.drewN nq) osq = w5 at S5 ⊢
            clear nq osq
            have hxy2 : y ≤ x := by have := of_decide_eq_false hd; omega
            clear rfr pfr bfr efr rfx pfx bfx efx
            go_wp2
            (try simp only [Exit.inBlock, Exit.then]); refine bodyPost_ret (results_none rfl _ _ _) rfl ?_
            exact ⟨rfl, by rw [← HX.out]; exact S5.out⟩
          | true =>
            have HN : Hid (siftDown ltInt hi first ch (swp dk fr fx) = T) := by have := hI.out; rw [sd_left_go ltInt dk HQ.out.1 (fun _ => by rw [← H_hch.out, hsum.out, ← H_hfc.out, ← H_hfd.out]; exact HV.out) (by rw [← H_hfr.out, ← H_hch.out, ← H_hfx.out]; exact hv2), ← H_hch.out] at this; rw [H_hfr.out, H_hfx.out]; exact this
            have HV2 := Hid.mk' hv2
            clear hv2
            obtain ⟨x, y, la, lb, hxy⟩ := S4.out.sa.comp HR.out HZ.out S4.out.len (i := fr) (j := fx) (by omega) (by omega)
            have hd : decide (x < y) = true := by rw [← hxy.out]; exact HV2.out
            have hc := fun n os => less_rune x y (grow (w4.drewN n) os)
            clear hxy
            go_wp2_with fail
            go_quiet_grown (first | (go_at_call 164; refine Calls.grown_of (hc _ _)))
            have S5 : Hid (St w0 blk off sz (dk) (grow (w4.drewN nq) osq)) := ⟨S4.out.len, S4.out.sa.grown nq osq⟩
            clear la lb hc
            generalize grow (w4.drewN nq) osq = w5 at S5 ⊢
            clear nq osq
            have hxy2 : x < y := of_decide_eq_true hd
            obtain ⟨x1, y1, u1, ca, cb, cc, fa, fb, S6⟩ := S5.out.sa.exch HR.out HZ.out S5.out.len (i := fr) (j := fx) (by omega) (by omega)
            go_wp2
            go_region
            generalize ((w5.setCell ⟨blk, off + fr, none⟩ (.int .i32 y1)).setCell ⟨blk, off + fx, none⟩ (.int .i32 x1)).drew = w6 at S6 ⊢
            clear ca cb cc fa fb
            clear rfr pfr bfr efr rfx pfx bfx efx
            go_wp2
            go_roundw
            case rel => exact ⟨ch, swp dk fr fx, rfl, by omega, HN, S6⟩
            case measure => first | (simp [intOf]; done) | (simp [intOf]; omega)
      · have dg : decide ((ch : Int) + 1 < (hi : Int)) = false := by simp; omega
        have HQ : Hid (2 * root + 1 < hi ∧ ¬ 2 * root + 2 < hi) := ⟨by omega, by omega⟩
        clear hch
        have H_hcd := Hid.mk' hcd
        clear hcd
        go_wp2_with fail
        go_region
        have S4 : Hid (St w0 blk off sz (dk) wr.drew) := ⟨S.out.len, SW.drew S.out.sa⟩
        generalize wr.drew = w4 at S4 ⊢
        clear dg rcd
        obtain ⟨fr, hfr⟩ : ∃ q, q = first + root := ⟨_, rfl⟩
        obtain ⟨fx, hfx⟩ : ∃ q, q = first + ch := ⟨_, rfl⟩
        have rfr : IntKind.i64.wrap ((first : Int) + (root : Int)) = (first : Int) + (root : Int) := by rw [IntKind.wrap_i64]; omega
        have pfr : (0 : Int) ≤ (first : Int) + (root : Int) := by omega
        have bfr : (first : Int) + (root : Int) < (sz : Int) := by omega
        have efr : ((first : Int) + (root : Int)).toNat = fr := by omega
        have rfx : IntKind.i64.wrap ((first : Int) + (ch : Int)) = (first : Int) + (ch : Int) := by rw [IntKind.wrap_i64]; omega
        have pfx : (0 : Int) ≤ (first : Int) + (ch : Int) := by omega
        have bfx : (first : Int) + (ch : Int) < (sz : Int) := by omega
        have efx : ((first : Int) + (ch : Int)).toNat = fx := by omega
        have lfr : fr < sz := by omega
        have lfx : fx < sz := by omega
        have lc2 : ch ≤ hi := by omega
        have H_hfr := Hid.mk' hfr
        clear hfr
        have H_hfx := Hid.mk' hfx
        clear hfx
        cases hv2 : ltInt dk[fr]! dk[fx]! with
        | false =>
          have HX : Hid (dk = T) := by have := hI.out; rw [sd_left_stop ltInt dk HQ.out.1 (fun h => absurd h HQ.out.2) (by rw [← H_hfr.out, ← H_hch.out, ← H_hfx.out]; exact hv2)] at this; exact this
          have HV2 := Hid.mk' hv2
          clear hv2
          obtain ⟨x, y, la, lb, hxy⟩ := S4.out.sa.comp HR.out HZ.out S4.out.len (i := fr) (j := fx) (by omega) (by omega)
          have hd : decide (x < y) = false := by rw [← hxy.out]; exact HV2.out
          have hc := fun n os => less_rune x y (grow (w4.drewN n) os)
          clear hxy
          go_wp2_with fail
          go_quiet_grown (first | (go_at_call 164; refine Calls.grown_of (hc _ _)))
          have S5 : Hid (St w0 blk off sz (dk) (grow (w4.drewN nq) osq)) := ⟨S4.out.len, S4.out.sa.grown nq osq⟩
          clear la lb hc
          generalize grow (w4.drewN nq) osq = w5 at S5 ⊢
          clear nq osq
          have hxy2 : y ≤ x := by have := of_decide_eq_false hd; omega
          clear rfr pfr bfr efr rfx pfx bfx efx
          go_wp2
          (try simp only [Exit.inBlock, Exit.then]); refine bodyPost_ret (results_none rfl _ _ _) rfl ?_
          exact ⟨rfl, by rw [← HX.out]; exact S5.out⟩
        | true =>
          have HN : Hid (siftDown ltInt hi first ch (swp dk fr fx) = T) := by have := hI.out; rw [sd_left_go ltInt dk HQ.out.1 (fun h => absurd h HQ.out.2) (by rw [← H_hfr.out, ← H_hch.out, ← H_hfx.out]; exact hv2), ← H_hch.out] at this; rw [H_hfr.out, H_hfx.out]; exact this
          have HV2 := Hid.mk' hv2
          clear hv2
          obtain ⟨x, y, la, lb, hxy⟩ := S4.out.sa.comp HR.out HZ.out S4.out.len (i := fr) (j := fx) (by omega) (by omega)
          have hd : decide (x < y) = true := by rw [← hxy.out]; exact HV2.out
          have hc := fun n os => less_rune x y (grow (w4.drewN n) os)
          clear hxy
          go_wp2_with fail
          go_quiet_grown (first | (go_at_call 164; refine Calls.grown_of (hc _ _)))
          have S5 : Hid (St w0 blk off sz (dk) (grow (w4.drewN nq) osq)) := ⟨S4.out.len, S4.out.sa.grown nq osq⟩
          clear la lb hc
          generalize grow (w4.drewN nq) osq = w5 at S5 ⊢
          clear nq osq
          have hxy2 : x < y := of_decide_eq_true hd
          obtain ⟨x1, y1, u1, ca, cb, cc, fa, fb, S6⟩ := S5.out.sa.exch HR.out HZ.out S5.out.len (i := fr) (j := fx) (by omega) (by omega)
          go_wp2
          go_region
          generalize ((w5.setCell ⟨blk, off + fr, none⟩ (.int .i32 y1)).setCell ⟨blk, off + fx, none⟩ (.int .i32 x1)).drew = w6 at S6 ⊢
          clear ca cb cc fa fb
          clear rfr pfr bfr efr rfx pfx bfx efx
          go_wp2
          go_roundw
          case rel => exact ⟨ch, swp dk fr fx, rfl, by omega, HN, S6⟩
          case measure => first | (simp [intOf]; done) | (simp [intOf]; omega)
end Go.Proofs.YtlnehhfljjeifaaGreatDoor

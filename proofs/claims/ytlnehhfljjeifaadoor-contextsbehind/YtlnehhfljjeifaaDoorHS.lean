/-
  What is proved here: slices.insertionSortOrdered at runes computes the plain insertion sort. · slices.siftDownOrdered at runes computes the plain sifting down. · slices.heapSortOrdered at runes computes the plain heap sort. · slices.partialInsertionSortOrdered at fewer than fifty runes computes the plain one. · what order2Ordered, medianOrdered and choosePivotOrdered of slices answer at runes: a place among those that are handed in (of 8 to 49).
-/
import Derived.Test.YtlnehhfljjeifaaDoorH0
namespace Go.Proofs.YtlnehhfljjeifaaDoor
open Go.RowKit Go.Sort

set_option maxRecDepth 20000 in
set_option maxHeartbeats 8000000 in
theorem insSort_any (w0 : World) (blk off cap : Nat) (d0 : Array Int) (R : RA w0 blk off d0) (sz : Nat) (hsz : d0.size = sz) (hs : sz ≤ 1073741824) (a b : Nat) (hab : a ≤ b) (hb : b ≤ sz) (d : Array Int) (w : World) (S : Hid (St w0 blk off sz d w)) :
    Calls Tryd.prog 64 #[.slice (some ⟨blk, off, none⟩) sz cap, .int .i64 a, .int .i64 b] w fun e w' => e = .returned (.tuple #[]) ∧ St w0 blk off sz (insertionSort ltInt d a b) w' := by
  have mixed : Tryd.prog.follows .mixedOrders = true := by kernel_rfl
  have HR := Hid.mk' R
  have HZ := Hid.mk' hsz
  obtain ⟨T, hT⟩ : ∃ T, insertionSort ltInt d a b = T := ⟨_, rfl⟩
  have H0 : Hid (insOuter ltInt a b (a + 1) d = T) := hT
  rw [hT]
  clear R hsz hT
  go_enter Tryd.func64, Tryd.ntmps64
  go_wp2
  go_loopw [6] (fun x wr => ∃ (i : Nat) (dk : Array Int), x = .int .i64 i ∧ a < i ∧ i ≤ b + 1 ∧ Hid (insOuter ltInt a b i dk = T) ∧ Hid (St w0 blk off sz dk wr)) (fun y _ => b + 1 - (intOf y).toNat)
  case atStart => exact ⟨a + 1, d, by go_num, by omega, by omega, H0, S⟩
  case round =>
    clear H0 S
    obtain ⟨i, dk, rfl, hai, hib, hI, S⟩ := hrel
    by_cases hlt : i < b
    · go_wp2
      go_loopw [7] (fun y wr2 => ∃ (j : Nat) (dj : Array Int), y = .int .i64 j ∧ a ≤ j ∧ j ≤ i ∧ Hid (insOuter ltInt a b (i + 1) (insInner ltInt a j dj) = T) ∧ Hid (St w0 blk off sz dj wr2)) (fun y _ => (intOf y).toNat)
      case atStart => exact ⟨i, dk, rfl, by omega, Nat.le_refl _, by show _ = _; rw [← insOuter_go _ _ _ _ _ hlt]; exact hI.out, S⟩
      case round =>
        clear hI S
        obtain ⟨j, dj, rfl, haj, hji, hJ, S⟩ := hrel
        by_cases hja : a < j
        · obtain ⟨k, rfl⟩ : ∃ k, j = k + 1 := ⟨j - 1, by omega⟩
          obtain ⟨jn, hjn⟩ : ∃ q, q = k + 1 := ⟨_, rfl⟩
          have rjn : IntKind.i64.wrap ((k : Int) + 1) = (k : Int) + 1 := by rw [IntKind.wrap_i64]; omega
          have pjn : (0 : Int) ≤ (k : Int) + 1 := by omega
          have bjn : (k : Int) + 1 < (sz : Int) := by omega
          have ejn : ((k : Int) + 1).toNat = jn := by omega
          have bk : (k : Int) < (sz : Int) := by omega
          have wk : IntKind.i64.wrap (k : Int) = (k : Int) := by rw [IntKind.wrap_i64]; omega
          have lk : k < sz ∧ jn < sz := by omega
          have HK : Hid (a ≤ k ∧ k ≤ i) := ⟨by omega, by omega⟩
          have dja : decide ((a : Int) < (k : Int) + 1) = true := by simp; omega
          have H_hjn := Hid.mk' hjn
          clear hjn
          cases hv : ltInt dj[jn]! dj[k]! with
          | true =>
            have HV := Hid.mk' hv
            clear hv
            have HN : Hid (insOuter ltInt a b (i + 1) (insInner ltInt a k (swp dj jn k)) = T) := by have e := insInner_go ltInt a (k + 1) dj hja (by rw [Nat.add_sub_cancel, ← H_hjn.out]; exact HV.out); rw [Nat.add_sub_cancel] at e; show _ = _; rw [H_hjn.out, ← e]; exact hJ.out
            obtain ⟨x, y, la, lb, hxy⟩ := S.out.sa.comp HR.out HZ.out S.out.len (i := jn) (j := k) (by omega) (by omega)
            have hd : decide (x < y) = true := by rw [← hxy.out]; exact HV.out
            have hc := fun n os => less_rune x y (grow (wr.drewN n) os)
            clear hxy
            go_wp2_with fail
            go_quiet_grown (first | (go_at_call 70; refine Calls.grown_of (hc _ _)))
            have S2 : Hid (St w0 blk off sz (dj) (grow (wr.drewN nq) osq)) := ⟨S.out.len, S.out.sa.grown nq osq⟩
            clear la lb hc
            generalize grow (wr.drewN nq) osq = w2 at S2 ⊢
            clear nq osq
            have hxy2 : x < y := of_decide_eq_true hd
            obtain ⟨x1, y1, u1, ca, cb, cc, fa, fb, S3⟩ := S2.out.sa.exch HR.out HZ.out S2.out.len (i := jn) (j := k) (by omega) (by omega)
            go_wp2
            go_region
            generalize ((w2.setCell ⟨blk, off + jn, none⟩ (.int .i32 y1)).setCell ⟨blk, off + k, none⟩ (.int .i32 x1)).drew = w3 at S3 ⊢
            clear ca cb cc fa fb
            go_wp2
            go_roundw
            case rel => exact ⟨k, swp dj jn k, by go_num, HK.out.1, HK.out.2, HN, S3⟩
            case measure => first | (simp [intOf]; done) | (simp [intOf]; omega)
          | false =>
            have HV := Hid.mk' hv
            clear hv
            have HN : Hid (insOuter ltInt a b (i + 1) dj = T) := by have := hJ.out; rw [insInner_stop ltInt a (k + 1) dj (.inr (by rw [Nat.add_sub_cancel, ← H_hjn.out]; exact HV.out))] at this; exact this
            obtain ⟨x, y, la, lb, hxy⟩ := S.out.sa.comp HR.out HZ.out S.out.len (i := jn) (j := k) (by omega) (by omega)
            have hd : decide (x < y) = false := by rw [← hxy.out]; exact HV.out
            have hc := fun n os => less_rune x y (grow (wr.drewN n) os)
            clear hxy
            go_wp2_with fail
            go_quiet_grown (first | (go_at_call 70; refine Calls.grown_of (hc _ _)))
            have S2 : Hid (St w0 blk off sz (dj) (grow (wr.drewN nq) osq)) := ⟨S.out.len, S.out.sa.grown nq osq⟩
            clear la lb hc
            generalize grow (wr.drewN nq) osq = w2 at S2 ⊢
            clear nq osq
            have hxy2 : y ≤ x := by have := of_decide_eq_false hd; omega
            clear rjn pjn bjn ejn
            go_wp2
            go_roundw
            case rel => exact ⟨i + 1, dj, by go_num, by omega, by omega, HN, S2⟩
            case measure => first | (simp [intOf]; done) | (simp [intOf]; omega)
        · have dja : decide ((a : Int) < (j : Int)) = false := by simp; omega
          have HN : Hid (insOuter ltInt a b (i + 1) dj = T) := by have := hJ.out; rw [insInner_stop ltInt a j dj (.inl (by omega))] at this; exact this
          go_wp2_with fail
          go_region
          have S2 : Hid (St w0 blk off sz (dj) wr.drew) := ⟨S.out.len, SW.drew S.out.sa⟩
          generalize wr.drew = w2 at S2 ⊢
          go_wp2
          go_roundw
          case rel => exact ⟨i + 1, dj, by go_num, by omega, by omega, HN, S2⟩
          case measure => first | (simp [intOf]; done) | (simp [intOf]; omega)
    · have HX : Hid (dk = T) := by have := hI.out; rw [insOuter_stop _ _ _ _ _ hlt] at this; exact this
      go_wp2
      go_end0
      exact ⟨rfl, by rw [← HX.out]; exact S.out⟩
end Go.Proofs.YtlnehhfljjeifaaDoor
namespace Go.Proofs.YtlnehhfljjeifaaDoor
open Go.RowKit Go.Sort

set_option maxRecDepth 20000 in
set_option maxHeartbeats 8000000 in
theorem sift_any (w0 : World) (blk off cap : Nat) (d0 : Array Int) (R : RA w0 blk off d0) (sz : Nat) (hsz : d0.size = sz) (hs : sz ≤ 1073741824) (lo hi first : Nat) (hlo : lo ≤ hi) (hfi : first + hi ≤ sz) (d : Array Int) (w : World) (S : Hid (St w0 blk off sz d w)) :
    Calls Tryd.prog 78 #[.slice (some ⟨blk, off, none⟩) sz cap, .int .i64 lo, .int .i64 hi, .int .i64 first] w fun e w' => e = .returned (.tuple #[]) ∧ St w0 blk off sz (siftDown ltInt hi first lo d) w' := by
  have mixed : Tryd.prog.follows .mixedOrders = true := by kernel_rfl
  have HR := Hid.mk' R
  have HZ := Hid.mk' hsz
  obtain ⟨T, hT⟩ : ∃ T, siftDown ltInt hi first lo d = T := ⟨_, rfl⟩
  have H0 : Hid (siftDown ltInt hi first lo d = T) := hT
  rw [hT]
  clear R hsz hT
  go_enter Tryd.func78, Tryd.ntmps78
  go_wp2
  go_loopw [8] (fun x wr => ∃ (root : Nat) (dk : Array Int), x = .int .i64 root ∧ root ≤ hi ∧ Hid (siftDown ltInt hi first root dk = T) ∧ Hid (St w0 blk off sz dk wr)) (fun x _ => hi - (intOf x).toNat)
  case atStart => exact ⟨lo, d, rfl, hlo, H0, S⟩
  case round =>
    clear H0 S
    obtain ⟨root, dk, rfl, hro, hI, S⟩ := hrel
    obtain ⟨ch, hch⟩ : ∃ ch : Nat, ch = 2 * root + 1 := ⟨_, rfl⟩
    have hcz : 2 * (root : Int) + 1 = (ch : Int) := by omega
    have H_hch := Hid.mk' hch
    by_cases hc : hi ≤ ch
    · have HX : Hid (dk = T) := by have := hI.out; rw [sd_end ltInt dk (by omega)] at this; exact this
      clear hch
      go_wp2
      go_end0
      exact ⟨rfl, by rw [← HX.out]; exact S.out⟩
    · obtain ⟨cd, hcd⟩ : ∃ q : Nat, q = ch + 1 := ⟨_, rfl⟩
      have rcd : IntKind.i64.wrap ((ch : Int) + 1) = (ch : Int) + 1 := by rw [IntKind.wrap_i64]; omega
      have hcdz : Hid ((ch : Int) + 1 = (cd : Int)) := by show _ = _; omega
      have hsum : Hid (2 * root + 2 = cd) := by show _ = _; omega
      have hcr : root < ch := by omega
      by_cases hc2 : cd < hi
      · have dg : decide ((ch : Int) + 1 < (hi : Int)) = true := by simp; omega
        have hc2q : 2 * root + 2 < hi := by omega
        obtain ⟨fc, hfc⟩ : ∃ q, q = first + ch := ⟨_, rfl⟩
        obtain ⟨fd, hfd⟩ : ∃ q, q = first + cd := ⟨_, rfl⟩
        have rfc : IntKind.i64.wrap ((first : Int) + (ch : Int)) = (first : Int) + (ch : Int) := by rw [IntKind.wrap_i64]; omega
        have pfc : (0 : Int) ≤ (first : Int) + (ch : Int) := by omega
        have bfc : (first : Int) + (ch : Int) < (sz : Int) := by omega
        have efc : ((first : Int) + (ch : Int)).toNat = fc := by omega
        have rfd : IntKind.i64.wrap ((first : Int) + (ch : Int) + 1) = (first : Int) + (ch : Int) + 1 := by rw [IntKind.wrap_i64]; omega
        have pfd : (0 : Int) ≤ (first : Int) + (ch : Int) + 1 := by omega
        have bfd : (first : Int) + (ch : Int) + 1 < (sz : Int) := by omega
        have efd : ((first : Int) + (ch : Int) + 1).toNat = fd := by omega
        have lfc : fc < sz := by omega
        have lfd : fd < sz := by omega
        have HQ : Hid (2 * root + 1 < hi ∧ 2 * root + 2 < hi) := ⟨by omega, by omega⟩
        clear hc2q
        have H_hfc := Hid.mk' hfc
        clear hfc
        have H_hfd := Hid.mk' hfd
        clear hfd
        have H_hcd := Hid.mk' hcd
        clear hcd
        clear hch
        cases hv : ltInt dk[fc]! dk[fd]! with
        | true =>
          have HV := Hid.mk' hv
          clear hv
          obtain ⟨x, y, la, lb, hxy⟩ := S.out.sa.comp HR.out HZ.out S.out.len (i := fc) (j := fd) (by omega) (by omega)
          have hd : decide (x < y) = true := by rw [← hxy.out]; exact HV.out
          have hc := fun n os => less_rune x y (grow (wr.drewN n) os)
          clear hxy
          go_wp2_with fail
          go_quiet_grown (first | (go_at_call 70; refine Calls.grown_of (hc _ _)))
          have S4 : Hid (St w0 blk off sz (dk) (grow (wr.drewN nq) osq)) := ⟨S.out.len, S.out.sa.grown nq osq⟩
          clear la lb hc
          generalize grow (wr.drewN nq) osq = w4 at S4 ⊢
          clear nq osq
          have hxy2 : x < y := of_decide_eq_true hd
          clear rfc pfc bfc efc rfd pfd bfd efd
          clear dg rcd
          have hcdz2 := hcdz.out
          obtain ⟨fr, hfr⟩ : ∃ q, q = first + root := ⟨_, rfl⟩
          obtain ⟨fx, hfx⟩ : ∃ q, q = first + cd := ⟨_, rfl⟩
          have rfr : IntKind.i64.wrap ((first : Int) + (root : Int)) = (first : Int) + (root : Int) := by rw [IntKind.wrap_i64]; omega
          have pfr : (0 : Int) ≤ (first : Int) + (root : Int) := by omega
          have bfr : (first : Int) + (root : Int) < (sz : Int) := by omega
          have efr : ((first : Int) + (root : Int)).toNat = fr := by omega
          have rfx : IntKind.i64.wrap ((first : Int) + (cd : Int)) = (first : Int) + (cd : Int) := by rw [IntKind.wrap_i64]; omega
          have pfx : (0 : Int) ≤ (first : Int) + (cd : Int) := by omega
          have bfx : (first : Int) + (cd : Int) < (sz : Int) := by omega
          have efx : ((first : Int) + (cd : Int)).toNat = fx := by omega
          have lfr : fr < sz := by omega
          have lfx : fx < sz := by omega
          have lc2 : cd ≤ hi := by omega
          have H_hfr := Hid.mk' hfr
          clear hfr
          have H_hfx := Hid.mk' hfx
          clear hfx
          cases hv2 : ltInt dk[fr]! dk[fx]! with
          | false =>
            have HX : Hid (dk = T) := by have := hI.out; rw [sd_right_stop ltInt dk HQ.out.2 (by rw [← H_hch.out, hsum.out, ← H_hfc.out, ← H_hfd.out]; exact HV.out) (by rw [← H_hfr.out, hsum.out, ← H_hfx.out]; exact hv2)] at this; exact this
            have HV2 := Hid.mk' hv2
            clear hv2
            obtain ⟨x, y, la, lb, hxy⟩ := S4.out.sa.comp HR.out HZ.out S4.out.len (i := fr) (j := fx) (by omega) (by omega)
            have hd : decide (x < y) = false := by rw [← hxy.out]; exact HV2.out
            have hc := fun n os => less_rune x y (grow (w4.drewN n) os)
            clear hxy
            go_wp2_with fail
            go_quiet_grown (first | (go_at_call 70; refine Calls.grown_of (hc _ _)))
            have S5 : Hid (St w0 blk off sz (dk) (grow (w4.drewN nq) osq)) := ⟨S4.out.len, S4.out.sa.grown nq osq⟩
            clear la lb hc
            generalize grow (w4.drewN nq) osq = w5 at S5 ⊢
            clear nq osq
            have hxy2 : y ≤ x := by have := of_decide_eq_false hd; omega
            clear rfr pfr bfr efr rfx pfx bfx efx
            go_wp2
            (try simp only [Exit.inBlock, Exit.then]); refine bodyPost_ret (results_none rfl _ _ _) rfl ?_
            exact ⟨rfl, by rw [← HX.out]; exact S5.out⟩
          | true =>
            have HN : Hid (siftDown ltInt hi first cd (swp dk fr fx) = T) := by have := hI.out; rw [sd_right_go ltInt dk HQ.out.2 (by rw [← H_hch.out, hsum.out, ← H_hfc.out, ← H_hfd.out]; exact HV.out) (by rw [← H_hfr.out, hsum.out, ← H_hfx.out]; exact hv2), hsum.out] at this; rw [H_hfr.out, H_hfx.out]; exact this
            have HV2 := Hid.mk' hv2
            clear hv2
            obtain ⟨x, y, la, lb, hxy⟩ := S4.out.sa.comp HR.out HZ.out S4.out.len (i := fr) (j := fx) (by omega) (by omega)
            have hd : decide (x < y) = true := by rw [← hxy.out]; exact HV2.out
            have hc := fun n os => less_rune x y (grow (w4.drewN n) os)
            clear hxy
            go_wp2_with fail
            go_quiet_grown (first | (go_at_call 70; refine Calls.grown_of (hc _ _)))
            have S5 : Hid (St w0 blk off sz (dk) (grow (w4.drewN nq) osq)) := ⟨S4.out.len, S4.out.sa.grown nq osq⟩
            clear la lb hc
            generalize grow (w4.drewN nq) osq = w5 at S5 ⊢
            clear nq osq
            have hxy2 : x < y := of_decide_eq_true hd
            obtain ⟨x1, y1, u1, ca, cb, cc, fa, fb, S6⟩ := S5.out.sa.exch HR.out HZ.out S5.out.len (i := fr) (j := fx) (by omega) (by omega)
            go_wp2
            go_region
            generalize ((w5.setCell ⟨blk, off + fr, none⟩ (.int .i32 y1)).setCell ⟨blk, off + fx, none⟩ (.int .i32 x1)).drew = w6 at S6 ⊢
            clear ca cb cc fa fb
            clear rfr pfr bfr efr rfx pfx bfx efx
            go_wp2
            go_roundw
            case rel => exact ⟨cd, swp dk fr fx, rfl, by omega, HN, S6⟩
            case measure => first | (simp [intOf]; done) | (simp [intOf]; omega)
        | false =>
          have HV := Hid.mk' hv
          clear hv
          obtain ⟨x, y, la, lb, hxy⟩ := S.out.sa.comp HR.out HZ.out S.out.len (i := fc) (j := fd) (by omega) (by omega)
          have hd : decide (x < y) = false := by rw [← hxy.out]; exact HV.out
          have hc := fun n os => less_rune x y (grow (wr.drewN n) os)
          clear hxy
          go_wp2_with fail
          go_quiet_grown (first | (go_at_call 70; refine Calls.grown_of (hc _ _)))
          have S4 : Hid (St w0 blk off sz (dk) (grow (wr.drewN nq) osq)) := ⟨S.out.len, S.out.sa.grown nq osq⟩
          clear la lb hc
          generalize grow (wr.drewN nq) osq = w4 at S4 ⊢
          clear nq osq
          have hxy2 : y ≤ x := by have := of_decide_eq_false hd; omega
          clear rfc pfc bfc efc rfd pfd bfd efd
          clear dg rcd
          obtain ⟨fr, hfr⟩ : ∃ q, q = first + root := ⟨_, rfl⟩
          obtain ⟨fx, hfx⟩ : ∃ q, q = first + ch := ⟨_, rfl⟩
          have rfr : IntKind.i64.wrap ((first : Int) + (root : Int)) = (first : Int) + (root : Int) := by rw [IntKind.wrap_i64]; omega
          have pfr : (0 : Int) ≤ (first : Int) + (root : Int) := by omega
          have bfr : (first : Int) + (root : Int) < (sz : Int) := by omega
          have efr : ((first : Int) + (root : Int)).toNat = fr := by omega
          have rfx : IntKind.i64.wrap ((first : Int) + (ch : Int)) = (first : Int) + (ch : Int) := by rw [IntKind.wrap_i64]; omega
          have pfx : (0 : Int) ≤ (first : Int) + (ch : Int) := by omega
          have bfx : (first : Int) + (ch : Int) < (sz : Int) := by omega
          have efx : ((first : Int) + (ch : Int)).toNat = fx := by omega
          have lfr : fr < sz := by omega
          have lfx : fx < sz := by omega
          have lc2 : ch ≤ hi := by omega
          have H_hfr := Hid.mk' hfr
          clear hfr
          have H_hfx := Hid.mk' hfx
          clear hfx
          cases hv2 : ltInt dk[fr]! dk[fx]! with
          | false =>
            have HX : Hid (dk = T) := by have := hI.out; rw [sd_left_stop ltInt dk HQ.out.1 (fun _ => by rw [← H_hch.out, hsum.out, ← H_hfc.out, ← H_hfd.out]; exact HV.out) (by rw [← H_hfr.out, ← H_hch.out, ← H_hfx.out]; exact hv2)] at this; exact this
            have HV2 := Hid.mk' hv2
            clear hv2
            obtain ⟨x, y, la, lb, hxy⟩ := S4.out.sa.comp HR.out HZ.out S4.out.len (i := fr) (j := fx) (by omega) (by omega)
            have hd : decide (x < y) = false := by rw [← hxy.out]; exact HV2.out
            have hc := fun n os => less_rune x y (grow (w4.drewN n) os)
            clear hxy
            go_wp2_with fail
            go_quiet_grown (first | (go_at_call 70; refine Calls.grown_of (hc _ _)))
            have S5 : Hid (St w0 blk off sz (dk) (grow (w4.drewN nq) osq)) := ⟨S4.out.len, S4.out.sa.grown nq osq⟩
            clear la lb hc
            generalize grow (w4.drewN nq) osq = w5 at S5 ⊢
            clear nq osq
            have hxy2 : y ≤ x := by have := of_decide_eq_false hd; omega
            clear rfr pfr bfr efr rfx pfx bfx efx
            go_wp2
            (try simp only [Exit.inBlock, Exit.then]); refine bodyPost_ret (results_none rfl _ _ _) rfl ?_
            exact ⟨rfl, by rw [← HX.out]; exact S5.out⟩
          | true =>
            have HN : Hid (siftDown ltInt hi first ch (swp dk fr fx) = T) := by have := hI.out; rw [sd_left_go ltInt dk HQ.out.1 (fun _ => by rw [← H_hch.out, hsum.out, ← H_hfc.out, ← H_hfd.out]; exact HV.out) (by rw [← H_hfr.out, ← H_hch.out, ← H_hfx.out]; exact hv2), ← H_hch.out] at this; rw [H_hfr.out, H_hfx.out]; exact this
            have HV2 := Hid.mk' hv2
            clear hv2
            obtain ⟨x, y, la, lb, hxy⟩ := S4.out.sa.comp HR.out HZ.out S4.out.len (i := fr) (j := fx) (by omega) (by omega)
            have hd : decide (x < y) = true := by rw [← hxy.out]; exact HV2.out
            have hc := fun n os => less_rune x y (grow (w4.drewN n) os)
            clear hxy
            go_wp2_with fail
            go_quiet_grown (first | (go_at_call 70; refine Calls.grown_of (hc _ _)))
            have S5 : Hid (St w0 blk off sz (dk) (grow (w4.drewN nq) osq)) := ⟨S4.out.len, S4.out.sa.grown nq osq⟩
            clear la lb hc
            generalize grow (w4.drewN nq) osq = w5 at S5 ⊢
            clear nq osq
            have hxy2 : x < y := of_decide_eq_true hd
            obtain ⟨x1, y1, u1, ca, cb, cc, fa, fb, S6⟩ := S5.out.sa.exch HR.out HZ.out S5.out.len (i := fr) (j := fx) (by omega) (by omega)
            go_wp2
            go_region
            generalize ((w5.setCell ⟨blk, off + fr, none⟩ (.int .i32 y1)).setCell ⟨blk, off + fx, none⟩ (.int .i32 x1)).drew = w6 at S6 ⊢
            clear ca cb cc fa fb
            clear rfr pfr bfr efr rfx pfx bfx efx
            go_wp2
            go_roundw
            case rel => exact ⟨ch, swp dk fr fx, rfl, by omega, HN, S6⟩
            case measure => first | (simp [intOf]; done) | (simp [intOf]; omega)
      · have dg : decide ((ch : Int) + 1 < (hi : Int)) = false := by simp; omega
        have HQ : Hid (2 * root + 1 < hi ∧ ¬ 2 * root + 2 < hi) := ⟨by omega, by omega⟩
        clear hch
        have H_hcd := Hid.mk' hcd
        clear hcd
        go_wp2_with fail
        go_region
        have S4 : Hid (St w0 blk off sz (dk) wr.drew) := ⟨S.out.len, SW.drew S.out.sa⟩
        generalize wr.drew = w4 at S4 ⊢
        clear dg rcd
        obtain ⟨fr, hfr⟩ : ∃ q, q = first + root := ⟨_, rfl⟩
        obtain ⟨fx, hfx⟩ : ∃ q, q = first + ch := ⟨_, rfl⟩
        have rfr : IntKind.i64.wrap ((first : Int) + (root : Int)) = (first : Int) + (root : Int) := by rw [IntKind.wrap_i64]; omega
        have pfr : (0 : Int) ≤ (first : Int) + (root : Int) := by omega
        have bfr : (first : Int) + (root : Int) < (sz : Int) := by omega
        have efr : ((first : Int) + (root : Int)).toNat = fr := by omega
        have rfx : IntKind.i64.wrap ((first : Int) + (ch : Int)) = (first : Int) + (ch : Int) := by rw [IntKind.wrap_i64]; omega
        have pfx : (0 : Int) ≤ (first : Int) + (ch : Int) := by omega
        have bfx : (first : Int) + (ch : Int) < (sz : Int) := by omega
        have efx : ((first : Int) + (ch : Int)).toNat = fx := by omega
        have lfr : fr < sz := by omega
        have lfx : fx < sz := by omega
        have lc2 : ch ≤ hi := by omega
        have H_hfr := Hid.mk' hfr
        clear hfr
        have H_hfx := Hid.mk' hfx
        clear hfx
        cases hv2 : ltInt dk[fr]! dk[fx]! with
        | false =>
          have HX : Hid (dk = T) := by have := hI.out; rw [sd_left_stop ltInt dk HQ.out.1 (fun h => absurd h HQ.out.2) (by rw [← H_hfr.out, ← H_hch.out, ← H_hfx.out]; exact hv2)] at this; exact this
          have HV2 := Hid.mk' hv2
          clear hv2
          obtain ⟨x, y, la, lb, hxy⟩ := S4.out.sa.comp HR.out HZ.out S4.out.len (i := fr) (j := fx) (by omega) (by omega)
          have hd : decide (x < y) = false := by rw [← hxy.out]; exact HV2.out
          have hc := fun n os => less_rune x y (grow (w4.drewN n) os)
          clear hxy
          go_wp2_with fail
          go_quiet_grown (first | (go_at_call 70; refine Calls.grown_of (hc _ _)))
          have S5 : Hid (St w0 blk off sz (dk) (grow (w4.drewN nq) osq)) := ⟨S4.out.len, S4.out.sa.grown nq osq⟩
          clear la lb hc
          generalize grow (w4.drewN nq) osq = w5 at S5 ⊢
          clear nq osq
          have hxy2 : y ≤ x := by have := of_decide_eq_false hd; omega
          clear rfr pfr bfr efr rfx pfx bfx efx
          go_wp2
          (try simp only [Exit.inBlock, Exit.then]); refine bodyPost_ret (results_none rfl _ _ _) rfl ?_
          exact ⟨rfl, by rw [← HX.out]; exact S5.out⟩
        | true =>
          have HN : Hid (siftDown ltInt hi first ch (swp dk fr fx) = T) := by have := hI.out; rw [sd_left_go ltInt dk HQ.out.1 (fun h => absurd h HQ.out.2) (by rw [← H_hfr.out, ← H_hch.out, ← H_hfx.out]; exact hv2), ← H_hch.out] at this; rw [H_hfr.out, H_hfx.out]; exact this
          have HV2 := Hid.mk' hv2
          clear hv2
          obtain ⟨x, y, la, lb, hxy⟩ := S4.out.sa.comp HR.out HZ.out S4.out.len (i := fr) (j := fx) (by omega) (by omega)
          have hd : decide (x < y) = true := by rw [← hxy.out]; exact HV2.out
          have hc := fun n os => less_rune x y (grow (w4.drewN n) os)
          clear hxy
          go_wp2_with fail
          go_quiet_grown (first | (go_at_call 70; refine Calls.grown_of (hc _ _)))
          have S5 : Hid (St w0 blk off sz (dk) (grow (w4.drewN nq) osq)) := ⟨S4.out.len, S4.out.sa.grown nq osq⟩
          clear la lb hc
          generalize grow (w4.drewN nq) osq = w5 at S5 ⊢
          clear nq osq
          have hxy2 : x < y := of_decide_eq_true hd
          obtain ⟨x1, y1, u1, ca, cb, cc, fa, fb, S6⟩ := S5.out.sa.exch HR.out HZ.out S5.out.len (i := fr) (j := fx) (by omega) (by omega)
          go_wp2
          go_region
          generalize ((w5.setCell ⟨blk, off + fr, none⟩ (.int .i32 y1)).setCell ⟨blk, off + fx, none⟩ (.int .i32 x1)).drew = w6 at S6 ⊢
          clear ca cb cc fa fb
          clear rfr pfr bfr efr rfx pfx bfx efx
          go_wp2
          go_roundw
          case rel => exact ⟨ch, swp dk fr fx, rfl, by omega, HN, S6⟩
          case measure => first | (simp [intOf]; done) | (simp [intOf]; omega)
end Go.Proofs.YtlnehhfljjeifaaDoor
namespace Go.Proofs.YtlnehhfljjeifaaDoor
open Go.RowKit Go.Sort

theorem sift_len (hi F lo : Nat) (d : Array Int) : (siftDown ltInt hi F lo d).size = d.size := size_siftDown ltInt hi F _ lo d (Nat.le_refl _)
set_option maxRecDepth 20000 in
set_option maxHeartbeats 8000000 in
theorem heap_any (w0 : World) (blk off cap : Nat) (d0 : Array Int) (R : RA w0 blk off d0) (sz : Nat) (hsz : d0.size = sz) (hs : sz ≤ 1073741824) (a b : Nat) (hab : a ≤ b) (hb : b ≤ sz) (d : Array Int) (w : World) (S : Hid (St w0 blk off sz d w)) :
    Calls Tryd.prog 65 #[.slice (some ⟨blk, off, none⟩) sz cap, .int .i64 a, .int .i64 b] w fun e w' => e = .returned (.tuple #[]) ∧ St w0 blk off sz (heapSort ltInt d a b) w' := by
  have mixed : Tryd.prog.follows .mixedOrders = true := by kernel_rfl
  have HR := Hid.mk' R
  have HZ := Hid.mk' hsz
  obtain ⟨T, hT⟩ : ∃ T, heapSort ltInt d a b = T := ⟨_, rfl⟩
  obtain ⟨n, hn⟩ : ∃ n : Nat, n = b - a := ⟨_, rfl⟩
  have hnz : (b : Int) - (a : Int) = (n : Int) := by omega
  obtain ⟨m, hm⟩ : ∃ m : Nat, m = (n - 1) / 2 + 1 := ⟨_, rfl⟩
  have H0 : Hid (heapPop ltInt a n (heapBuild ltInt n a m d) = T) := by show _ = _; rw [hm, hn]; exact hT
  have hmz : ((n : Int) - 1).tdiv 2 = (m : Int) - 1 := by have := half_start hab; rw [hnz] at this; rw [this, hm, hn]
  have hmn : m ≤ n + 1 := by omega
  have hfn : a + n ≤ sz := by omega
  have H_hn := Hid.mk' hn
  clear hn
  have H_hm := Hid.mk' hm
  clear hm
  have HS := Hid.mk' (fun lo hi w d => sift_any w0 blk off cap d0 R sz hsz hs lo hi a (d := d) (w := w))
  rw [hT]
  clear R hsz hT
  go_enter Tryd.func65, Tryd.ntmps65
  go_wp2
  go_loopw [9] (fun x wr => ∃ (k : Nat) (dk : Array Int), x = .int .i64 ((k : Int) - 1) ∧ k ≤ m ∧ Hid (heapPop ltInt a n (heapBuild ltInt n a k dk) = T) ∧ Hid (St w0 blk off sz dk wr)) (fun x _ => (intOf x + 1).toNat)
  case atStart => exact ⟨m, d, by first | rfl | rw [hmz], Nat.le_refl _, H0, S⟩
  case round =>
    clear H0 S
    obtain ⟨k, dk, rfl, hk, hI, S⟩ := hrel
    cases k with
    | succ k =>
      have e1 : (((k + 1 : Nat) : Int) - 1) = (k : Int) := by omega
      rw [e1]
      have HN : Hid (heapPop ltInt a n (heapBuild ltInt n a k (siftDown ltInt n a k dk)) = T) := hI
      have HC := Hid.mk' (HS.out k n wr dk (by omega) (by omega) S)
      go_wp2_with fail
      refine HC.out.mono ?_
      rintro e w1 ⟨rfl, h1⟩
      have S2 := Hid.mk' h1
      clear h1
      go_wp2
      go_roundw
      case rel => exact ⟨k, _, by go_num, by omega, HN, S2⟩
      case measure => first | (simp [intOf]; done) | (simp [intOf]; omega)
    | zero =>
      have HN : Hid (heapPop ltInt a n dk = T) := hI
      have e0 : (((0 : Nat) : Int) - 1) = -1 := by omega
      rw [e0]
      clear e0
      go_wp2
      go_loopw [10] (fun x wr => ∃ (k : Nat) (dk : Array Int), x = .int .i64 ((k : Int) - 1) ∧ k ≤ n ∧ Hid (heapPop ltInt a k dk = T) ∧ Hid (St w0 blk off sz dk wr)) (fun x _ => (intOf x + 1).toNat)
      case atStart => exact ⟨n, dk, rfl, Nat.le_refl _, HN, S⟩
      case round =>
        clear HN S hI
        obtain ⟨k, dk, rfl, hk, hI, S⟩ := hrel
        cases k with
        | succ k =>
          have e1 : (((k + 1 : Nat) : Int) - 1) = (k : Int) := by omega
          rw [e1]
          obtain ⟨fk, hfk⟩ : ∃ q, q = a + k := ⟨_, rfl⟩
          have rfk : IntKind.i64.wrap ((a : Int) + (k : Int)) = (a : Int) + (k : Int) := by rw [IntKind.wrap_i64]; omega
          have pfk : (0 : Int) ≤ (a : Int) + (k : Int) := by omega
          have bfk : (a : Int) + (k : Int) < (sz : Int) := by omega
          have efk : ((a : Int) + (k : Int)).toNat = fk := by omega
          have ba : (a : Int) < (sz : Int) := by omega
          have lfk : fk < sz := by omega
          have HN : Hid (heapPop ltInt a k (siftDown ltInt k a 0 (swp dk a fk)) = T) := by rw [hfk]; exact hI
          have H_hfk := Hid.mk' hfk
          clear hfk
          obtain ⟨x1, y1, u1, ca, cb, cc, fa, fb, S3⟩ := S.out.sa.exch HR.out HZ.out S.out.len (i := a) (j := fk) (by omega) (by omega)
          go_wp2
          go_region
          generalize ((wr.setCell ⟨blk, off + a, none⟩ (.int .i32 y1)).setCell ⟨blk, off + fk, none⟩ (.int .i32 x1)).drew = w3 at S3 ⊢
          clear ca cb cc fa fb
          clear rfk pfk bfk efk
          have HC := Hid.mk' (HS.out 0 k w3 (swp dk a fk) (by omega) (by omega) S3)
          go_wp2_with fail
          refine HC.out.mono ?_
          rintro e w1 ⟨rfl, h1⟩
          have S2 := Hid.mk' h1
          clear h1
          go_wp2
          go_roundw
          case rel => exact ⟨k, _, by go_num, by omega, HN, S2⟩
          case measure => first | (simp [intOf]; done) | (simp [intOf]; omega)
        | zero =>
          have HX : Hid (dk = T) := hI
          have e0 : (((0 : Nat) : Int) - 1) = -1 := by omega
          rw [e0]
          clear e0
          go_wp2
          go_end0
          exact ⟨rfl, by rw [← HX.out]; exact S.out⟩
end Go.Proofs.YtlnehhfljjeifaaDoor
namespace Go.Proofs.YtlnehhfljjeifaaDoor
open Go.RowKit Go.Sort

set_option maxRecDepth 20000 in
set_option maxHeartbeats 8000000 in
theorem partial_any (w0 : World) (blk off cap : Nat) (d0 : Array Int) (R : RA w0 blk off d0) (sz : Nat) (hsz : d0.size = sz) (hs : sz ≤ 1073741824) (a b : Nat) (hab : a < b) (hb : b ≤ sz) (h50 : b - a < 50) (d : Array Int) (w : World) (S : Hid (St w0 blk off sz d w)) :
    Calls Tryd.prog 69 #[.slice (some ⟨blk, off, none⟩) sz cap, .int .i64 a, .int .i64 b] w fun e w' => e = .returned (.bool (partialInsertionSort ltInt d a b).2) ∧ St w0 blk off sz (partialInsertionSort ltInt d a b).1 w' := by
  have mixed : Tryd.prog.follows .mixedOrders = true := by kernel_rfl
  have HR := Hid.mk' R
  have HZ := Hid.mk' hsz
  have HT : Hid (scanSorted ltInt d b (a + 1) = b → partialInsertionSort ltInt d a b = (d, true)) := fun h => pi_true ltInt a b 0 (a + 1) d (by omega) h
  have HF : Hid (scanSorted ltInt d b (a + 1) ≠ b → partialInsertionSort ltInt d a b = (d, false)) := fun h => pi_short ltInt a b 0 (a + 1) d (by omega) h h50
  have d50 : (b : Int) - (a : Int) < 50 := by omega
  obtain ⟨T, hT⟩ : ∃ T, partialInsertionSort ltInt d a b = T := ⟨_, rfl⟩
  rw [hT] at HT HF ⊢
  clear R hsz hT
  go_enter Tryd.func69, Tryd.ntmps69
  go_wp2
  go_loopw [7, 8] (fun x z wr => x = .int .i64 ((a : Int) + 1) ∧ z = .int .i64 0 ∧ Hid (St w0 blk off sz d wr)) (fun _ _ _ => 0)
  case atStart => exact ⟨by go_num, rfl, S⟩
  case round =>
    clear S
    obtain ⟨rfl, rfl, S⟩ := hrel
    go_wp2
    go_loopw [7] (fun x wr => ∃ p : Nat, x = .int .i64 p ∧ a < p ∧ p ≤ b ∧ Hid (scanSorted ltInt d b p = scanSorted ltInt d b (a + 1)) ∧ Hid (St w0 blk off sz d wr)) (fun x _ => b - (intOf x).toNat)
    case atStart => exact ⟨a + 1, by go_num, by omega, by omega, rfl, S⟩
    case round =>
      clear S
      obtain ⟨p, rfl, hap, hpb, hI, S⟩ := hrel
      by_cases hlt : p < b
      · obtain ⟨k, rfl⟩ : ∃ k, p = k + 1 := ⟨p - 1, by omega⟩
        obtain ⟨pn, hpn⟩ : ∃ q, q = k + 1 := ⟨_, rfl⟩
        have rpn : IntKind.i64.wrap ((k : Int) + 1) = (k : Int) + 1 := by rw [IntKind.wrap_i64]; omega
        have ppn : (0 : Int) ≤ (k : Int) + 1 := by omega
        have bpn : (k : Int) + 1 < (sz : Int) := by omega
        have epn : ((k : Int) + 1).toNat = pn := by omega
        have bk : (k : Int) < (sz : Int) := by omega
        have wk : IntKind.i64.wrap (k : Int) = (k : Int) := by rw [IntKind.wrap_i64]; omega
        have lk : k < sz ∧ pn < sz := by omega
        have dg : decide ((k : Int) + 1 < (b : Int)) = true := by simp; omega
        have H_hpn := Hid.mk' hpn
        clear hpn
        cases hv : ltInt d[pn]! d[k]! with
        | false =>
          have HV := Hid.mk' hv
          clear hv
          have HN : Hid (scanSorted ltInt d b (k + 1 + 1) = scanSorted ltInt d b (a + 1)) := by rw [← scanSorted_go ltInt d b (k + 1) hlt (by rw [Nat.add_sub_cancel, ← H_hpn.out]; exact HV.out)]; exact hI.out
          obtain ⟨x, y, la, lb, hxy⟩ := S.out.sa.comp HR.out HZ.out S.out.len (i := pn) (j := k) (by omega) (by omega)
          have hd : decide (x < y) = false := by rw [← hxy.out]; exact HV.out
          have hc := fun n os => less_rune x y (grow (wr.drewN n) os)
          clear hxy
          go_wp2_with fail
          go_quiet_grown (first | (go_at_call 70; refine Calls.grown_of (hc _ _)))
          have S2 : Hid (St w0 blk off sz (d) (grow (wr.drewN nq) osq)) := ⟨S.out.len, S.out.sa.grown nq osq⟩
          clear la lb hc
          generalize grow (wr.drewN nq) osq = w2 at S2 ⊢
          clear nq osq
          have hxy2 : y ≤ x := by have := of_decide_eq_false hd; omega
          clear rpn ppn bpn epn
          go_wp2
          go_roundw
          case rel => exact ⟨k + 1 + 1, by go_num, by omega, by omega, HN, S2⟩
          case measure => first | (simp [intOf]; done) | (simp [intOf]; omega)
        | true =>
          have HV := Hid.mk' hv
          clear hv
          have HX : Hid (T = (d, false)) := HF.out (by rw [← hI.out, scanSorted_stop ltInt d b (k + 1) (.inr (by rw [Nat.add_sub_cancel, ← H_hpn.out]; exact HV.out))]; omega)
          obtain ⟨x, y, la, lb, hxy⟩ := S.out.sa.comp HR.out HZ.out S.out.len (i := pn) (j := k) (by omega) (by omega)
          have hd : decide (x < y) = true := by rw [← hxy.out]; exact HV.out
          have hc := fun n os => less_rune x y (grow (wr.drewN n) os)
          clear hxy
          go_wp2_with fail
          go_quiet_grown (first | (go_at_call 70; refine Calls.grown_of (hc _ _)))
          have S2 : Hid (St w0 blk off sz (d) (grow (wr.drewN nq) osq)) := ⟨S.out.len, S.out.sa.grown nq osq⟩
          clear la lb hc
          generalize grow (wr.drewN nq) osq = w2 at S2 ⊢
          clear nq osq
          have hxy2 : x < y := of_decide_eq_true hd
          clear rpn ppn bpn epn
          have hne : ((k : Int) + 1 == (b : Int)) = false := by simp; omega
          go_wp2
          go_ret
          exact ⟨by rw [HX.out] <;> rfl, by rw [HX.out]; exact S2.out⟩
      · obtain rfl : p = b := by omega
        have HX : Hid (T = (d, true)) := HT.out (by rw [← hI.out, scanSorted_stop ltInt d p p (.inl (by omega))])
        have dg : decide ((p : Int) < (p : Int)) = false := by simp
        go_wp2_with fail
        go_region
        have S2 : Hid (St w0 blk off sz (d) wr.drew) := ⟨S.out.len, SW.drew S.out.sa⟩
        generalize wr.drew = w2 at S2 ⊢
        go_wp2
        go_ret
        exact ⟨by rw [HX.out] <;> rfl, by rw [HX.out]; exact S2.out⟩
end Go.Proofs.YtlnehhfljjeifaaDoor
namespace Go.Proofs.YtlnehhfljjeifaaDoor
open Go.RowKit Go.Sort

/-- the row, and a counter in a block of its own -/
structure Cn (w0 : World) (blk off sz : Nat) (d : Array Int) (c s : Nat) (W : World) : Prop where
  len : d.size = sz
  cn : Cnt1 (Value.int .i32) w0 blk off d c s W
theorem Cn.st {w0 W : World} {blk off sz c s : Nat} {d : Array Int} (h : Cn w0 blk off sz d c s W) : St w0 blk off sz d W := ⟨h.len, h.cn.1⟩
theorem Cn.cell {w0 W : World} {blk off sz c s : Nat} {d : Array Int} (h : Cn w0 blk off sz d c s W) : W.cell? ⟨c, 0, none⟩ = some (.int .i64 s) := h.cn.2.1
theorem Cn.frz {w0 W : World} {blk off sz c s : Nat} {d : Array Int} (h : Cn w0 blk off sz d c s W) : W.frozen? ⟨c, 0, none⟩ = false := h.cn.2.2.1
theorem Cn.grown {w0 W : World} {blk off sz c s : Nat} {d : Array Int} (h : Cn w0 blk off sz d c s W) (n : Nat) (os : Array Obj) : Cn w0 blk off sz d c s (grow (W.drewN n) os) := ⟨h.len, h.cn.grown n os⟩
theorem Cn.bump {w0 W : World} {blk off sz c s : Nat} {d : Array Int} (h : Cn w0 blk off sz d c s W) (t : Nat) : Cn w0 blk off sz d c t (W.setCell ⟨c, 0, none⟩ (.int .i64 t)) := ⟨h.len, h.cn.bump t⟩
set_option maxRecDepth 20000 in
set_option maxHeartbeats 8000000 in
theorem order2_any (w0 : World) (blk off cap : Nat) (d0 : Array Int) (R : RA w0 blk off d0) (sz : Nat) (hsz : d0.size = sz) (hs : sz ≤ 1073741824) (a b : Nat) (ha : a < sz) (hb : b < sz) (c s : Nat) (hsm : s ≤ 1000) (d : Array Int) (w : World) (S : Hid (Cn w0 blk off sz d c s w)) :
    Calls Tryd.prog 85 #[.slice (some ⟨blk, off, none⟩) sz cap, .int .i64 a, .int .i64 b, .pointer (some ⟨c, 0, none⟩)] w fun e w' => ∃ x y s' : Nat, e = .returned (.tuple #[.int .i64 x, .int .i64 y]) ∧ ((x = a ∧ y = b) ∨ (x = b ∧ y = a)) ∧ s' ≤ s + 1 ∧ Hid (Cn w0 blk off sz d c s' w') := by
  have mixed : Tryd.prog.follows .mixedOrders = true := by kernel_rfl
  have HR := Hid.mk' R
  have HZ := Hid.mk' hsz
  have _h := hs
  clear _h
  have bz : (b : Int) < (sz : Int) := by omega
  have az : (a : Int) < (sz : Int) := by omega
  clear R hsz
  cases hv : ltInt d[b]! d[a]! with
  | true =>
    have HV := Hid.mk' hv
    clear hv
    go_enter Tryd.func85, Tryd.ntmps85
    obtain ⟨x, y, la, lb, hxy⟩ := S.out.st.sa.comp HR.out HZ.out S.out.len (i := b) (j := a) (by omega) (by omega)
    have hd : decide (x < y) = true := by rw [← hxy.out]; exact HV.out
    have hc := fun n os => less_rune x y (grow (w.drewN n) os)
    clear hxy
    go_wp2_with fail
    go_quiet_grown (first | (go_at_call 70; refine Calls.grown_of (hc _ _)))
    have S2 : Hid (Cn w0 blk off sz d c s (grow (w.drewN nq) osq)) := S.out.grown nq osq
    clear la lb hc
    generalize grow (w.drewN nq) osq = w2 at S2 ⊢
    clear nq osq
    have hxy2 : x < y := of_decide_eq_true hd
    have c0 := S2.out.cell
    have f0 := S2.out.frz
    have HS1 : Hid ((s : Int) + 1 = ((s + 1 : Nat) : Int)) := by show _ = _; omega
    have S3 : Hid (Cn w0 blk off sz d c (s + 1) (w2.setCell ⟨c, 0, none⟩ (.int .i64 ((s + 1 : Nat) : Int)))) := S2.out.bump (s + 1)
    go_wp2
    go_ret2
    refine ⟨b, a, s + 1, rfl, .inr ⟨rfl, rfl⟩, Nat.le_refl _, ?_⟩
    first | exact S3 | (rw [HS1.out]; exact S3) | (rw [← HS1.out] at S3; exact S3)
  | false =>
    have HV := Hid.mk' hv
    clear hv
    go_enter Tryd.func85, Tryd.ntmps85
    obtain ⟨x, y, la, lb, hxy⟩ := S.out.st.sa.comp HR.out HZ.out S.out.len (i := b) (j := a) (by omega) (by omega)
    have hd : decide (x < y) = false := by rw [← hxy.out]; exact HV.out
    have hc := fun n os => less_rune x y (grow (w.drewN n) os)
    clear hxy
    go_wp2_with fail
    go_quiet_grown (first | (go_at_call 70; refine Calls.grown_of (hc _ _)))
    have S2 : Hid (Cn w0 blk off sz d c s (grow (w.drewN nq) osq)) := S.out.grown nq osq
    clear la lb hc
    generalize grow (w.drewN nq) osq = w2 at S2 ⊢
    clear nq osq
    have hxy2 : y ≤ x := by have := of_decide_eq_false hd; omega
    go_wp2
    go_ret2
    exact ⟨a, b, s, rfl, .inl ⟨rfl, rfl⟩, by omega, S2⟩
set_option maxRecDepth 20000 in
set_option maxHeartbeats 8000000 in
theorem median_any (w0 : World) (blk off cap : Nat) (d0 : Array Int) (R : RA w0 blk off d0) (sz : Nat) (hsz : d0.size = sz) (hs : sz ≤ 1073741824) (a b k : Nat) (ha : a < sz) (hb : b < sz) (hk : k < sz) (c s : Nat) (hsm : s ≤ 100) (d : Array Int) (w : World) (S : Hid (Cn w0 blk off sz d c s w)) :
    Calls Tryd.prog 82 #[.slice (some ⟨blk, off, none⟩) sz cap, .int .i64 a, .int .i64 b, .int .i64 k, .pointer (some ⟨c, 0, none⟩)] w fun e w' => ∃ x s' : Nat, e = .returned (.int .i64 x) ∧ (x = a ∨ x = b ∨ x = k) ∧ s' ≤ s + 3 ∧ Hid (Cn w0 blk off sz d c s' w') := by
  have mixed : Tryd.prog.follows .mixedOrders = true := by kernel_rfl
  have HR := Hid.mk' R
  have HZ := Hid.mk' hsz
  have HO := Hid.mk' (fun a b ha hb s hsm w S => order2_any w0 blk off cap d0 R sz hsz hs a b ha hb c s hsm d w S)
  clear R hsz
  go_enter Tryd.func82, Tryd.ntmps82
  go_wp2_with fail
  refine (HO.out a b ha hb s (by omega) w S).mono ?_
  rintro e w1 ⟨x1, y1, s1, rfl, h1, g1, S1⟩
  have hx1 : x1 < sz ∧ y1 < sz := by omega
  go_wp2_with fail
  refine (HO.out y1 k (by omega) hk s1 (by omega) w1 S1).mono ?_
  rintro e w2 ⟨x2, y2, s2, rfl, h2, g2, S2⟩
  have hx2 : x2 < sz ∧ y2 < sz := by omega
  go_wp2_with fail
  refine (HO.out x1 x2 (by omega) (by omega) s2 (by omega) w2 S2).mono ?_
  rintro e w3 ⟨x3, y3, s3, rfl, h3, g3, S3⟩
  have HE : Hid (y3 = a ∨ y3 = b ∨ y3 = k) := by show _ ∨ _; omega
  clear h1 h2 h3 S1 S2 S
  go_wp2
  go_ret
  exact ⟨y3, s3, rfl, HE.out, by omega, S3⟩
set_option maxRecDepth 20000 in
set_option maxHeartbeats 8000000 in
theorem pivot_any (w0 : World) (blk off cap : Nat) (d0 : Array Int) (R : RA w0 blk off d0) (sz : Nat) (hsz : d0.size = sz) (hs : sz ≤ 1073741824) (a b : Nat) (hab : a + 8 ≤ b) (hb : b ≤ sz) (h50 : b - a < 50) (d : Array Int) (w : World) (S : Hid (St w0 blk off sz d w)) :
    Calls Tryd.prog 67 #[.slice (some ⟨blk, off, none⟩) sz cap, .int .i64 a, .int .i64 b] w fun e w' => ∃ p h : Nat, e = .returned (.tuple #[.int .i64 p, .int .i64 h]) ∧ a ≤ p ∧ p < b ∧ h < 2 ∧ Hid (St w0 blk off sz d w') := by
  have mixed : Tryd.prog.follows .mixedOrders = true := by kernel_rfl
  have HR := Hid.mk' R
  have HZ := Hid.mk' hsz
  have HM := Hid.mk' (fun a b k ha hb hk c s hsm w S => median_any w0 blk off cap d0 R sz hsz hs a b k ha hb hk c s hsm d w S)
  have S1 : Hid (Cn w0 blk off sz d w.heap.size 0 (w.alloc (.cells #[.int .i64 0] 3))) := ⟨S.out.len, Cnt1.start S.out.sa _⟩
  obtain ⟨l, hl⟩ : ∃ l : Nat, l = b - a := ⟨_, rfl⟩
  obtain ⟨q, hq⟩ : ∃ q : Nat, q = l / 4 := ⟨_, rfl⟩
  have hlz : (b : Int) - (a : Int) = (l : Int) := by omega
  have hqz : (l : Int) / 4 = (q : Int) := by omega
  have hqt : (l : Int).tdiv 4 = (q : Int) := by rw [Int.tdiv_eq_ediv_of_nonneg (by omega)]; exact hqz
  obtain ⟨i, hi⟩ : ∃ i : Nat, i = a + q := ⟨_, rfl⟩
  obtain ⟨j, hj⟩ : ∃ j : Nat, j = a + q * 2 := ⟨_, rfl⟩
  obtain ⟨k, hk⟩ : ∃ k : Nat, k = a + q * 3 := ⟨_, rfl⟩
  have hiz : (a : Int) + (q : Int) = (i : Int) := by omega
  have hjz : (a : Int) + (q : Int) * 2 = (j : Int) := by omega
  have hkz : (a : Int) + (q : Int) * 3 = (k : Int) := by omega
  have hib : a ≤ i ∧ i < b ∧ a ≤ j ∧ j < b ∧ a ≤ k ∧ k < b := by omega
  have H_hl := Hid.mk' hl
  clear hl
  have H_hq := Hid.mk' hq
  clear hq
  have H_hi := Hid.mk' hi
  clear hi
  have H_hj := Hid.mk' hj
  clear hj
  have H_hk := Hid.mk' hk
  clear hk
  clear R hsz S
  go_enter Tryd.func67, Tryd.ntmps67
  go_wp2_with fail
  refine (HM.out i j k (by omega) (by omega) (by omega) w.heap.size 0 (by omega) _ S1).mono ?_
  rintro e w1 ⟨x, s', rfl, hx, g, S2⟩
  have hxa : a ≤ x ∧ x < b := by omega
  have c0 := S2.out.cell
  have S3 : Hid (St w0 blk off sz d w1) := S2.out.st
  rcases (by omega : s' = 0 ∨ (0 < s' ∧ s' ≤ 3)) with rfl | hs3
  · go_wp2
    go_ret2
    exact ⟨x, 1, rfl, hxa.1, hxa.2, by omega, S3⟩
  · have z0 : ((s' : Int) == 0) = false := by simp; omega
    have z12 : ((s' : Int) == 12) = false := by simp; omega
    go_wp2
    go_ret2
    exact ⟨x, 0, rfl, hxa.1, hxa.2, by omega, S3⟩
end Go.Proofs.YtlnehhfljjeifaaDoor

/-
  What is proved here: slices.insertionSortOrdered at runes computes the plain insertion sort.
-/
import Derived.Test.YtlnehhfljjeifaaGreatDoorH0
namespace Go.Proofs.YtlnehhfljjeifaaGreatDoor
open Go.RowKit Go.Sort

set_option maxRecDepth 20000 in
set_option maxHeartbeats 8000000 in
theorem insSort_any (w0 : World) (blk off cap : Nat) (d0 : Array Int) (R : RA w0 blk off d0) (sz : Nat) (hsz : d0.size = sz) (hs : sz ≤ 1073741824) (a b : Nat) (hab : a ≤ b) (hb : b ≤ sz) (d : Array Int) (w : World) (S : Hid (St w0 blk off sz d w)) :
    Calls Tryz.prog 158 #[.slice (some ⟨blk, off, none⟩) sz cap, .int .i64 a, .int .i64 b] w fun e w' => e = .returned (.tuple #[]) ∧ St w0 blk off sz (insertionSort ltInt d a b) w' := by
  have mixed : Tryz.prog.follows .mixedOrders = true := by kernel_rfl
  have HR := Hid.mk' R
  have HZ := Hid.mk' hsz
  obtain ⟨T, hT⟩ : ∃ T, insertionSort ltInt d a b = T := ⟨_, rfl⟩
  have H0 : Hid (insOuter ltInt a b (a + 1) d = T) := hT
  rw [hT]
  clear R hsz hT
  go_enter Tryz.func158, Tryz.ntmps158
  go_wp2
  go_loopw [6] (fun x wr => ∃ (i : Nat) (dk : Array Int), x = .int .i64 i ∧ a < i ∧ i ≤ b + 1 ∧ Hid (insOuter ltInt a b i dk = T) ∧ Hid (St w0 blk off sz dk wr)) (fun y _ => b + 1 - (intOf y).toNat)
  case atStart => exact ⟨a + 1, d, by go_num, by omega, by omega, H0, S⟩
  case round =>
    clear H0 S
    obtain ⟨i, dk, rfl, hai, hib, hI, S⟩ := hrel
    by_cases hlt : i < b
    · go_wp2
      go_loopw [7] (fun y wr2 => ∃ (j : Nat) (dj : Array Int), y = .int .i64 j ∧ a ≤ j ∧ j ≤ i ∧ Hid (insOuter ltInt a b (i + 1) (insInner ltInt a j dj) = T) ∧ Hid (St w0 blk off sz dj wr2)) (fun y _ => (intOf y).toNat)
      case atStart => exact ⟨i, dk, rfl, by omega, Nat.le_refl _, by show _ = _; rw [← insOuter_go _ _ _ _ _ hlt]; exact hI.out, S⟩
      case round =>
        clear hI S
        obtain ⟨j, dj, rfl, haj, hji, hJ, S⟩ := hrel
        by_cases hja : a < j
        · obtain ⟨k, rfl⟩ : ∃ k, j = k + 1 := ⟨j - 1, by omega⟩
          obtain ⟨jn, hjn⟩ : ∃ q, q = k + 1 := ⟨_, rfl⟩
          have rjn : IntKind.i64.wrap ((k : Int) + 1) = (k : Int) + 1 := by rw [IntKind.wrap_i64]; omega
          have pjn : (0 : Int) ≤ (k : Int) + 1 := by omega
          have bjn : (k : Int) + 1 < (sz : Int) := by omega
          have ejn : ((k : Int) + 1).toNat = jn := by omega
          have bk : (k : Int) < (sz : Int) := by omega
          have wk : IntKind.i64.wrap (k : Int) = (k : Int) := by rw [IntKind.wrap_i64]; omega
          have lk : k < sz ∧ jn < sz := by omega
          have HK : Hid (a ≤ k ∧ k ≤ i) := ⟨by omega, by omega⟩
          have dja : decide ((a : Int) < (k : Int) + 1) = true := by simp; omega
          have H_hjn := Hid.mk' hjn
          clear hjn
          cases hv : ltInt dj[jn]! dj[k]! with
          | true =>
            have HV := Hid.mk' hv
            clear hv
            have HN : Hid (insOuter ltInt a b (i + 1) (insInner ltInt a k (swp dj jn k)) = T) := by have e := insInner_go ltInt a (k + 1) dj hja (by rw [Nat.add_sub_cancel, ← H_hjn.out]; exact HV.out); rw [Nat.add_sub_cancel] at e; show _ = _; rw [H_hjn.out, ← e]; exact hJ.out
            obtain ⟨x, y, la, lb, hxy⟩ := S.out.sa.comp HR.out HZ.out S.out.len (i := jn) (j := k) (by omega) (by omega)
            have hd : decide (x < y) = true := by rw [← hxy.out]; exact HV.out
            have hc := fun n os => less_rune x y (grow (wr.drewN n) os)
            clear hxy
            go_wp2_with fail
            go_quiet_grown (first | (go_at_call 164; refine Calls.grown_of (hc _ _)))
            have S2 : Hid (St w0 blk off sz (dj) (grow (wr.drewN nq) osq)) := ⟨S.out.len, S.out.sa.grown nq osq⟩
            clear la lb hc
            generalize grow (wr.drewN nq) osq = w2 at S2 ⊢
            clear nq osq
            have hxy2 : x < y := of_decide_eq_true hd
            obtain ⟨x1, y1, u1, ca, cb, cc, fa, fb, S3⟩ := S2.out.sa.exch HR.out HZ.out S2.out.len (i := jn) (j := k) (by omega) (by omega)
            go_wp2
            go_region
            generalize ((w2.setCell ⟨blk, off + jn, none⟩ (.int .i32 y1)).setCell ⟨blk, off + k, none⟩ (.int .i32 x1)).drew = w3 at S3 ⊢
            clear ca cb cc fa fb
            go_wp2
            go_roundw
            case rel => exact ⟨k, swp dj jn k, by go_num, HK.out.1, HK.out.2, HN, S3⟩
            case measure => first | (simp [intOf]; done) | (simp [intOf]; omega)
          | false =>
            have HV := Hid.mk' hv
            clear hv
            have HN : Hid (insOuter ltInt a b (i + 1) dj = T) := by have := hJ.out; rw [insInner_stop ltInt a (k + 1) dj (.inr (by rw [Nat.add_sub_cancel, ← H_hjn.out]; exact HV.out))] at this; exact this
            obtain ⟨x, y, la, lb, hxy⟩ := S.out.sa.comp HR.out HZ.out S.out.len (i := jn) (j := k) (by omega) (by omega)
            have hd : decide (x < y) = false := by rw [← hxy.out]; exact HV.out
            have hc := fun n os => less_rune x y (grow (wr.drewN n) os)
            clear hxy
            go_wp2_with fail
            go_quiet_grown (first | (go_at_call 164; refine Calls.grown_of (hc _ _)))
            have S2 : Hid (St w0 blk off sz (dj) (grow (wr.drewN nq) osq)) := ⟨S.out.len, S.out.sa.grown nq osq⟩
            clear la lb hc
            generalize grow (wr.drewN nq) osq = w2 at S2 ⊢
            clear nq osq
            have hxy2 : y ≤ x := by have := of_decide_eq_false hd; omega
            clear rjn pjn bjn ejn
            go_wp2
            go_roundw
            case rel => exact ⟨i + 1, dj, by go_num, by omega, by omega, HN, S2⟩
            case measure => first | (simp [intOf]; done) | (simp [intOf]; omega)
        · have dja : decide ((a : Int) < (j : Int)) = false := by simp; omega
          have HN : Hid (insOuter ltInt a b (i + 1) dj = T) := by have := hJ.out; rw [insInner_stop ltInt a j dj (.inl (by omega))] at this; exact this
          go_wp2_with fail
          go_region
          have S2 : Hid (St w0 blk off sz (dj) wr.drew) := ⟨S.out.len, SW.drew S.out.sa⟩
          generalize wr.drew = w2 at S2 ⊢
          go_wp2
          go_roundw
          case rel => exact ⟨i + 1, dj, by go_num, by omega, by omega, HN, S2⟩
          case measure => first | (simp [intOf]; done) | (simp [intOf]; omega)
    · have HX : Hid (dk = T) := by have := hI.out; rw [insOuter_stop _ _ _ _ _ hlt] at this; exact this
      go_wp2
      go_end0
      exact ⟨rfl, by rw [← HX.out]; exact S.out⟩
end Go.Proofs.YtlnehhfljjeifaaGreatDoor

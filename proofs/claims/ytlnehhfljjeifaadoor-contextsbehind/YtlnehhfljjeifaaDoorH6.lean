/-
  What is proved here: slices.partitionEqualOrdered at runes computes the plain partition into equal and greater.
-/
import Derived.Test.YtlnehhfljjeifaaDoorH0
namespace Go.Proofs.YtlnehhfljjeifaaDoor
open Go.RowKit Go.Sort

set_option maxRecDepth 20000 in
set_option maxHeartbeats 32000000 in
theorem partEqual_any (w0 : World) (blk off cap : Nat) (d0 : Array Int) (R : RA w0 blk off d0) (sz : Nat) (hsz : d0.size = sz) (hs : sz ≤ 1073741824) (a b pivot : Nat) (hap : a ≤ pivot) (hpb : pivot < b) (hb : b ≤ sz) (d : Array Int) (w : World) (S : Hid (St w0 blk off sz d w)) :
    Calls Tryd.prog 71 #[.slice (some ⟨blk, off, none⟩) sz cap, .int .i64 a, .int .i64 b, .int .i64 pivot] w fun e w' => e = .returned (.int .i64 (partitionEqual ltInt d a b pivot).1) ∧ St w0 blk off sz (partitionEqual ltInt d a b pivot).2 w' := by
  have mixed : Tryd.prog.follows .mixedOrders = true := by kernel_rfl
  have HR := Hid.mk' R
  have HZ := Hid.mk' hsz
  obtain ⟨T, hT⟩ : ∃ T, partitionEqual ltInt d a b pivot = T := ⟨_, rfl⟩
  have HT : Hid (partEqLoop ltInt a (a + 1) (b - 1) (swp d a pivot) = T) := hT
  rw [hT]
  clear R hsz hT
  have ba0 : (a : Int) < (sz : Int) := by omega
  have bp0 : (pivot : Int) < (sz : Int) := by omega
  have hjz : (b : Int) - 1 = ((b - 1 : Nat) : Int) := by omega
  go_enter Tryd.func71, Tryd.ntmps71
  obtain ⟨x1, y1, u1, ca, cb, cc, fa, fb, S9⟩ := S.out.sa.exch HR.out HZ.out S.out.len (i := a) (j := pivot) (by omega) (by omega)
  go_wp2
  go_region
  generalize ((w.setCell ⟨blk, off + a, none⟩ (.int .i32 y1)).setCell ⟨blk, off + pivot, none⟩ (.int .i32 x1)).drew = w9 at S9 ⊢
  clear ca cb cc fa fb
  clear S bp0
  go_wp2
  go_loopw [9, 10] (fun x z wr => ∃ (i j : Nat) (dk : Array Int), x = .int .i64 i ∧ z = .int .i64 j ∧ a < i ∧ i ≤ j + 1 ∧ j < b ∧ Hid (partEqLoop ltInt a i j dk = T) ∧ Hid (St w0 blk off sz dk wr)) (fun x z _ => (intOf z).toNat + 1 - (intOf x).toNat)
  case atStart => exact ⟨a + 1, b - 1, _, by go_num, by first | rfl | rw [hjz], by omega, by omega, by omega, HT, S9⟩
  case round =>
    clear S9 HT hjz
    obtain ⟨i, j, dk, rfl, rfl, hai, hij, hjb, HL, S⟩ := hrel
    obtain ⟨i2, hi2⟩ : ∃ q, q = scanUp (fun x => !ltInt dk[a]! x) dk j i := ⟨_, rfl⟩
    obtain ⟨u1, u2, u3, u4⟩ := scanUp_spec (fun x => !ltInt dk[a]! x) dk j _ i rfl
    rw [← hi2] at u1 u2 u3 u4
    obtain ⟨j2, hj2⟩ : ∃ q, q = scanDown (fun x => ltInt dk[a]! x) dk i2 j := ⟨_, rfl⟩
    obtain ⟨v1, v2, v3, v4⟩ := scanDown_spec (fun x => ltInt dk[a]! x) dk i2 j
    rw [← hj2] at v1 v2 v3 v4
    replace u2 := u2 hij
    replace v2 := v2 (by omega)
    have hlt2 : i2 ≤ j2 → i2 < j2 := scans_lt ltInt a i j dk (by omega) hi2 hj2
    have U3 := Hid.mk' u3
    have U4 := Hid.mk' u4
    have V3 := Hid.mk' v3
    have V4 := Hid.mk' v4
    have HI2 := Hid.mk' hi2
    have HJ2 := Hid.mk' hj2
    clear u3 u4 v3 v4 hi2 hj2
    by_cases hB : i2 ≤ j2
    · have hB2 := hlt2 hB
      go_wp2
      go_loopw [9] (fun x wr => ∃ p : Nat, x = .int .i64 p ∧ i ≤ p ∧ p ≤ i2 ∧ Hid (St w0 blk off sz dk wr)) (fun x _ => i2 - (intOf x).toNat)
      case atStart => exact ⟨i, rfl, Nat.le_refl _, u1, S⟩
      case round =>
        clear S
        obtain ⟨p, rfl, hp1, hp2, S⟩ := hrel
        by_cases hp : p < i2
        · have bp : (p : Int) < (sz : Int) := by omega
          have dg : decide (p ≤ j) = true := by simp; omega
          have HV : Hid (ltInt dk[a]! dk[p]! = false) := by show _ = _; have := U3.out p hp1 hp; simpa using this
          obtain ⟨x, y, la, lb, hxy⟩ := S.out.sa.comp HR.out HZ.out S.out.len (i := a) (j := p) (by omega) (by omega)
          have hd : decide (x < y) = false := by rw [← hxy.out]; exact HV.out
          have hc := fun n os => less_rune x y (grow (wr.drewN n) os)
          clear hxy
          go_wp2_with fail
          go_quiet_grown (first | (go_at_call 70; refine Calls.grown_of (hc _ _)))
          have S2 : Hid (St w0 blk off sz (dk) (grow (wr.drewN nq) osq)) := ⟨S.out.len, S.out.sa.grown nq osq⟩
          clear la lb hc
          generalize grow (wr.drewN nq) osq = w2 at S2 ⊢
          clear nq osq
          have hxy2 : y ≤ x := by have := of_decide_eq_false hd; omega
          go_wp2
          go_roundw
          case rel => exact ⟨p + 1, by go_num, by omega, by omega, S2⟩
          case measure => first | (simp [intOf]; done) | (simp [intOf]; omega)
        · obtain rfl : p = i2 := by omega
          clear hp1 hp2 hp
          have bp : (p : Int) < (sz : Int) := by omega
          have dg : decide (p ≤ j) = true := by simp; omega
          have HV : Hid (ltInt dk[a]! dk[p]! = true) := by show _ = _; have := U4.out (by omega); simpa using this
          obtain ⟨x, y, la, lb, hxy⟩ := S.out.sa.comp HR.out HZ.out S.out.len (i := a) (j := p) (by omega) (by omega)
          have hd : decide (x < y) = true := by rw [← hxy.out]; exact HV.out
          have hc := fun n os => less_rune x y (grow (wr.drewN n) os)
          clear hxy
          go_wp2_with fail
          go_quiet_grown (first | (go_at_call 70; refine Calls.grown_of (hc _ _)))
          have S2 : Hid (St w0 blk off sz (dk) (grow (wr.drewN nq) osq)) := ⟨S.out.len, S.out.sa.grown nq osq⟩
          clear la lb hc
          generalize grow (wr.drewN nq) osq = w2 at S2 ⊢
          clear nq osq
          have hxy2 : x < y := of_decide_eq_true hd
          clear dg hd
          go_wp2
          go_loopw [10] (fun z wr => ∃ q : Nat, z = .int .i64 q ∧ j2 ≤ q ∧ q ≤ j ∧ Hid (St w0 blk off sz dk wr)) (fun z _ => (intOf z).toNat - j2)
          case atStart => exact ⟨j, rfl, v1, Nat.le_refl _, S2⟩
          case round =>
            clear S2
            obtain ⟨q, rfl, hq1, hq2, S⟩ := hrel
            by_cases hq : j2 < q
            · have bq : (q : Int) < (sz : Int) := by omega
              have dg : decide (p ≤ q) = true := by simp; omega
              have HV : Hid (ltInt dk[a]! dk[q]! = true) := by show _ = _; have := V3.out q hq hq2; simpa using this
              have eq1 : Hid (((q : Int) - 1) = ((q - 1 : Nat) : Int)) := by show _ = _; omega
              obtain ⟨x, y, la, lb, hxy⟩ := S.out.sa.comp HR.out HZ.out S.out.len (i := a) (j := q) (by omega) (by omega)
              have hd : decide (x < y) = true := by rw [← hxy.out]; exact HV.out
              have hc := fun n os => less_rune x y (grow (wr.drewN n) os)
              clear hxy
              go_wp2_with fail
              go_quiet_grown (first | (go_at_call 70; refine Calls.grown_of (hc _ _)))
              have S2 : Hid (St w0 blk off sz (dk) (grow (wr.drewN nq) osq)) := ⟨S.out.len, S.out.sa.grown nq osq⟩
              clear la lb hc
              generalize grow (wr.drewN nq) osq = w2 at S2 ⊢
              clear nq osq
              have hxy2 : x < y := of_decide_eq_true hd
              go_wp2
              go_roundw
              case rel => exact ⟨q - 1, by first | (rw [← eq1.out]; done) | (rw [← eq1.out]; rfl) | go_num, by omega, by omega, S2⟩
              case measure => first | (simp [intOf]; done) | (simp [intOf]; omega)
            · obtain rfl : q = j2 := by omega
              clear hq1 hq2 hq
              have bq : (q : Int) < (sz : Int) := by omega
              have dg : decide (p ≤ q) = true := by simp; omega
              have HV : Hid (ltInt dk[a]! dk[q]! = false) := by show _ = _; have := V4.out (by omega) (by omega); simpa using this
              obtain ⟨x, y, la, lb, hxy⟩ := S.out.sa.comp HR.out HZ.out S.out.len (i := a) (j := q) (by omega) (by omega)
              have hd : decide (x < y) = false := by rw [← hxy.out]; exact HV.out
              have hc := fun n os => less_rune x y (grow (wr.drewN n) os)
              clear hxy
              go_wp2_with fail
              go_quiet_grown (first | (go_at_call 70; refine Calls.grown_of (hc _ _)))
              have S3 : Hid (St w0 blk off sz (dk) (grow (wr.drewN nq) osq)) := ⟨S.out.len, S.out.sa.grown nq osq⟩
              clear la lb hc
              generalize grow (wr.drewN nq) osq = w3 at S3 ⊢
              clear nq osq
              have hxy2 : y ≤ x := by have := of_decide_eq_false hd; omega
              clear dg hd
              have HN : Hid (partEqLoop ltInt a (p + 1) (q - 1) (swp dk p q) = T) := by rw [← HL.out]; exact (partEq_go ltInt a i j dk HI2.out HJ2.out (by omega)).symm
              have bp : (p : Int) < (sz : Int) := by omega
              have bq : (q : Int) < (sz : Int) := by omega
              have dgt : decide (q < p) = false := by simp; omega
              have eq1 : Hid (((q : Int) - 1) = ((q - 1 : Nat) : Int)) := by show _ = _; omega
              obtain ⟨x1, y1, u1, ca, cb, cc, fa, fb, S4⟩ := S3.out.sa.exch HR.out HZ.out S3.out.len (i := p) (j := q) (by omega) (by omega)
              go_wp2
              go_region
              generalize ((w3.setCell ⟨blk, off + p, none⟩ (.int .i32 y1)).setCell ⟨blk, off + q, none⟩ (.int .i32 x1)).drew = w4 at S4 ⊢
              clear ca cb cc fa fb
              go_wp2
              go_roundw
              case rel => exact ⟨p + 1, q - 1, swp dk p q, by go_num, by first | (rw [← eq1.out]; done) | (rw [← eq1.out]; rfl) | go_num, by omega, by omega, by omega, HN, S4⟩
              case measure => first | (simp [intOf]; done) | (simp [intOf]; omega)
    · by_cases hA : i2 ≤ j
      · go_wp2
        go_loopw [9] (fun x wr => ∃ p : Nat, x = .int .i64 p ∧ i ≤ p ∧ p ≤ i2 ∧ Hid (St w0 blk off sz dk wr)) (fun x _ => i2 - (intOf x).toNat)
        case atStart => exact ⟨i, rfl, Nat.le_refl _, u1, S⟩
        case round =>
          clear S
          obtain ⟨p, rfl, hp1, hp2, S⟩ := hrel
          by_cases hp : p < i2
          · have bp : (p : Int) < (sz : Int) := by omega
            have dg : decide (p ≤ j) = true := by simp; omega
            have HV : Hid (ltInt dk[a]! dk[p]! = false) := by show _ = _; have := U3.out p hp1 hp; simpa using this
            obtain ⟨x, y, la, lb, hxy⟩ := S.out.sa.comp HR.out HZ.out S.out.len (i := a) (j := p) (by omega) (by omega)
            have hd : decide (x < y) = false := by rw [← hxy.out]; exact HV.out
            have hc := fun n os => less_rune x y (grow (wr.drewN n) os)
            clear hxy
            go_wp2_with fail
            go_quiet_grown (first | (go_at_call 70; refine Calls.grown_of (hc _ _)))
            have S2 : Hid (St w0 blk off sz (dk) (grow (wr.drewN nq) osq)) := ⟨S.out.len, S.out.sa.grown nq osq⟩
            clear la lb hc
            generalize grow (wr.drewN nq) osq = w2 at S2 ⊢
            clear nq osq
            have hxy2 : y ≤ x := by have := of_decide_eq_false hd; omega
            go_wp2
            go_roundw
            case rel => exact ⟨p + 1, by go_num, by omega, by omega, S2⟩
            case measure => first | (simp [intOf]; done) | (simp [intOf]; omega)
          · obtain rfl : p = i2 := by omega
            clear hp1 hp2 hp
            have bp : (p : Int) < (sz : Int) := by omega
            have dg : decide (p ≤ j) = true := by simp; omega
            have HV : Hid (ltInt dk[a]! dk[p]! = true) := by show _ = _; have := U4.out (by omega); simpa using this
            obtain ⟨x, y, la, lb, hxy⟩ := S.out.sa.comp HR.out HZ.out S.out.len (i := a) (j := p) (by omega) (by omega)
            have hd : decide (x < y) = true := by rw [← hxy.out]; exact HV.out
            have hc := fun n os => less_rune x y (grow (wr.drewN n) os)
            clear hxy
            go_wp2_with fail
            go_quiet_grown (first | (go_at_call 70; refine Calls.grown_of (hc _ _)))
            have S2 : Hid (St w0 blk off sz (dk) (grow (wr.drewN nq) osq)) := ⟨S.out.len, S.out.sa.grown nq osq⟩
            clear la lb hc
            generalize grow (wr.drewN nq) osq = w2 at S2 ⊢
            clear nq osq
            have hxy2 : x < y := of_decide_eq_true hd
            clear dg hd
            go_wp2
            go_loopw [10] (fun z wr => ∃ q : Nat, z = .int .i64 q ∧ j2 ≤ q ∧ q ≤ j ∧ Hid (St w0 blk off sz dk wr)) (fun z _ => (intOf z).toNat - j2)
            case atStart => exact ⟨j, rfl, v1, Nat.le_refl _, S2⟩
            case round =>
              clear S2
              obtain ⟨q, rfl, hq1, hq2, S⟩ := hrel
              by_cases hq : j2 < q
              · have bq : (q : Int) < (sz : Int) := by omega
                have dg : decide (p ≤ q) = true := by simp; omega
                have HV : Hid (ltInt dk[a]! dk[q]! = true) := by show _ = _; have := V3.out q hq hq2; simpa using this
                have eq1 : Hid (((q : Int) - 1) = ((q - 1 : Nat) : Int)) := by show _ = _; omega
                obtain ⟨x, y, la, lb, hxy⟩ := S.out.sa.comp HR.out HZ.out S.out.len (i := a) (j := q) (by omega) (by omega)
                have hd : decide (x < y) = true := by rw [← hxy.out]; exact HV.out
                have hc := fun n os => less_rune x y (grow (wr.drewN n) os)
                clear hxy
                go_wp2_with fail
                go_quiet_grown (first | (go_at_call 70; refine Calls.grown_of (hc _ _)))
                have S2 : Hid (St w0 blk off sz (dk) (grow (wr.drewN nq) osq)) := ⟨S.out.len, S.out.sa.grown nq osq⟩
                clear la lb hc
                generalize grow (wr.drewN nq) osq = w2 at S2 ⊢
                clear nq osq
                have hxy2 : x < y := of_decide_eq_true hd
                go_wp2
                go_roundw
                case rel => exact ⟨q - 1, by first | (rw [← eq1.out]; done) | (rw [← eq1.out]; rfl) | go_num, by omega, by omega, S2⟩
                case measure => first | (simp [intOf]; done) | (simp [intOf]; omega)
              · obtain rfl : q = j2 := by omega
                clear hq1 hq2 hq
                have dg : decide (p ≤ q) = false := by simp; omega
                go_wp2_with fail
                go_region
                have S3 : Hid (St w0 blk off sz (dk) wr.drew) := ⟨S.out.len, SW.drew S.out.sa⟩
                generalize wr.drew = w3 at S3 ⊢
                clear dg
                obtain ⟨HE⟩ : Nonempty (Hid (T = (p, dk))) := ⟨by rw [← HL.out]; exact partEq_break ltInt a i j dk HI2.out HJ2.out (by omega)⟩
                have dgt : decide (q < p) = true := by simp; omega
                go_wp2
                go_ret
                exact ⟨by rw [HE.out] <;> rfl, by rw [HE.out]; exact S3.out⟩
      · go_wp2
        go_loopw [9] (fun x wr => ∃ p : Nat, x = .int .i64 p ∧ i ≤ p ∧ p ≤ i2 ∧ Hid (St w0 blk off sz dk wr)) (fun x _ => i2 - (intOf x).toNat)
        case atStart => exact ⟨i, rfl, Nat.le_refl _, u1, S⟩
        case round =>
          clear S
          obtain ⟨p, rfl, hp1, hp2, S⟩ := hrel
          by_cases hp : p < i2
          · have bp : (p : Int) < (sz : Int) := by omega
            have dg : decide (p ≤ j) = true := by simp; omega
            have HV : Hid (ltInt dk[a]! dk[p]! = false) := by show _ = _; have := U3.out p hp1 hp; simpa using this
            obtain ⟨x, y, la, lb, hxy⟩ := S.out.sa.comp HR.out HZ.out S.out.len (i := a) (j := p) (by omega) (by omega)
            have hd : decide (x < y) = false := by rw [← hxy.out]; exact HV.out
            have hc := fun n os => less_rune x y (grow (wr.drewN n) os)
            clear hxy
            go_wp2_with fail
            go_quiet_grown (first | (go_at_call 70; refine Calls.grown_of (hc _ _)))
            have S2 : Hid (St w0 blk off sz (dk) (grow (wr.drewN nq) osq)) := ⟨S.out.len, S.out.sa.grown nq osq⟩
            clear la lb hc
            generalize grow (wr.drewN nq) osq = w2 at S2 ⊢
            clear nq osq
            have hxy2 : y ≤ x := by have := of_decide_eq_false hd; omega
            go_wp2
            go_roundw
            case rel => exact ⟨p + 1, by go_num, by omega, by omega, S2⟩
            case measure => first | (simp [intOf]; done) | (simp [intOf]; omega)
          · obtain rfl : p = i2 := by omega
            clear hp1 hp2 hp
            have dg : decide (p ≤ j) = false := by simp; omega
            go_wp2_with fail
            go_region
            have S2 : Hid (St w0 blk off sz (dk) wr.drew) := ⟨S.out.len, SW.drew S.out.sa⟩
            generalize wr.drew = w2 at S2 ⊢
            clear dg
            go_wp2
            go_loopw [10] (fun z wr => ∃ q : Nat, z = .int .i64 q ∧ j2 ≤ q ∧ q ≤ j ∧ Hid (St w0 blk off sz dk wr)) (fun z _ => (intOf z).toNat - j2)
            case atStart => exact ⟨j, rfl, v1, Nat.le_refl _, S2⟩
            case round =>
              clear S2
              obtain ⟨q, rfl, hq1, hq2, S⟩ := hrel
              by_cases hq : j2 < q
              · have bq : (q : Int) < (sz : Int) := by omega
                have dg : decide (p ≤ q) = true := by simp; omega
                have HV : Hid (ltInt dk[a]! dk[q]! = true) := by show _ = _; have := V3.out q hq hq2; simpa using this
                have eq1 : Hid (((q : Int) - 1) = ((q - 1 : Nat) : Int)) := by show _ = _; omega
                obtain ⟨x, y, la, lb, hxy⟩ := S.out.sa.comp HR.out HZ.out S.out.len (i := a) (j := q) (by omega) (by omega)
                have hd : decide (x < y) = true := by rw [← hxy.out]; exact HV.out
                have hc := fun n os => less_rune x y (grow (wr.drewN n) os)
                clear hxy
                go_wp2_with fail
                go_quiet_grown (first | (go_at_call 70; refine Calls.grown_of (hc _ _)))
                have S2 : Hid (St w0 blk off sz (dk) (grow (wr.drewN nq) osq)) := ⟨S.out.len, S.out.sa.grown nq osq⟩
                clear la lb hc
                generalize grow (wr.drewN nq) osq = w2 at S2 ⊢
                clear nq osq
                have hxy2 : x < y := of_decide_eq_true hd
                go_wp2
                go_roundw
                case rel => exact ⟨q - 1, by first | (rw [← eq1.out]; done) | (rw [← eq1.out]; rfl) | go_num, by omega, by omega, S2⟩
                case measure => first | (simp [intOf]; done) | (simp [intOf]; omega)
              · obtain rfl : q = j2 := by omega
                clear hq1 hq2 hq
                have dg : decide (p ≤ q) = false := by simp; omega
                go_wp2_with fail
                go_region
                have S3 : Hid (St w0 blk off sz (dk) wr.drew) := ⟨S.out.len, SW.drew S.out.sa⟩
                generalize wr.drew = w3 at S3 ⊢
                clear dg
                obtain ⟨HE⟩ : Nonempty (Hid (T = (p, dk))) := ⟨by rw [← HL.out]; exact partEq_break ltInt a i j dk HI2.out HJ2.out (by omega)⟩
                have dgt : decide (q < p) = true := by simp; omega
                go_wp2
                go_ret
                exact ⟨by rw [HE.out] <;> rfl, by rw [HE.out]; exact S3.out⟩
end Go.Proofs.YtlnehhfljjeifaaDoor

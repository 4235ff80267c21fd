/-
  What is proved here: what the reference's Next (layer 1) answers at a place within a text of at most 60 bytes.
-/
import Derived.Test.YteflghhpdikidaaDoorRef2
import Derived.Deep.RegionHeld3
namespace Go.Proofs.YteflghhpdikidaaDoor
open Go.RowKit

theorem cutN_toList (s : ByteArray) (k n : Nat) (_h : k + n ≤ s.size) : (s.extract k (k + n)).data.toList = (s.data.toList.drop k).take n := by
  rw [Lib.extract_data, show k + n - k = n by omega]
theorem cutN_size (s : ByteArray) (k n : Nat) (h : k + n ≤ s.size) : (s.extract k (k + n)).size = n := by
  have : (s.extract k (k + n)).data.toList.length = (s.extract k (k + n)).size := rfl
  rw [← this, cutN_toList s k n h, List.length_take, List.length_drop]
  have : s.data.toList.length = s.size := rfl
  omega

/-- a text's size, of a value -/
def szOf : Value → Nat
  | .string s => s.size
  | _ => 0
theorem push_list (x : ByteArray) (c : UInt8) : (x ++ (⟨#[c]⟩ : ByteArray)).data.toList = x.data.toList ++ [c] := by simp
theorem push_size (x : ByteArray) (c : UInt8) : (x ++ (⟨#[c]⟩ : ByteArray)).size = x.size + 1 := by
  have h1 : (x ++ (⟨#[c]⟩ : ByteArray)).data.toList.length = (x ++ (⟨#[c]⟩ : ByteArray)).size := rfl
  have h2 : x.data.toList.length = x.size := rfl
  rw [← h1, push_list, List.length_append, h2]; rfl
theorem rep_snoc (c : Nat) (b : UInt8) : List.replicate c b ++ [b] = List.replicate (c + 1) b := by
  rw [List.replicate_succ']

set_option maxRecDepth 20000 in
set_option maxHeartbeats 4000000 in
theorem refNext_any (s : ByteArray) (k : Nat) (w : World) (hs : s.size ≤ 60) (hk : k < s.size) :
    Calls Tryd.prog 50 #[.string s, .int .i64 k] w fun e w' => e = .returned (.tuple #[.int .i32 (Utf.first (s.data.toList.drop k)).1, .int .i64 (Utf.first (s.data.toList.drop k)).2.1, .int .i64 (Utf.first (s.data.toList.drop k)).2.2]) ∧ Below w.heap.size w w' := by
  have hll : (s.data.toList.drop k).length = s.size - k := by rw [List.length_drop]; rfl
  have HLL := Hid.mk' hll
  clear hll
  generalize hl : s.data.toList.drop k = l at HLL
  have HL := Hid.mk' hl
  clear hl
  go_enter Tryd.func50, Tryd.ntmps50
  go_wp2
  go_loopw [7] (fun i wr => ∃ n : Nat, 1 ≤ n ∧ n ≤ 5 ∧ k + n ≤ s.size + 1 ∧ i = .int .i64 n ∧ Below w.heap.size w wr ∧ Hid (∀ j, 1 ≤ j → j < n → Utf.first l ≠ (Utf.val (l.take j), (j : Int), 0))) (fun i _ => 5 - (intOf i).toNat)
  case atStart => exact ⟨1, Nat.le_refl _, by omega, by omega, rfl, Below.refl _ _, fun j h1 h2 => by omega⟩
  case round =>
    obtain ⟨n, hn1, hn5, hkn, rfl, hbel, HN⟩ := hrel
    by_cases hlt : n ≤ 4 ∧ k + n ≤ s.size
    · obtain ⟨h4, h5⟩ := hlt
      have hsz := cutN_size s k n h5
      have HV : Hid (∀ wx, _) := fun wx => value_any (s.extract k (k + n)) wx (by omega) (by omega)
      rw [cutN_toList s k n h5, HL.out] at HV
      generalize hr : Utf.val (l.take n) = r at HV
      have HR := Hid.mk' hr
      clear hr hsz
      have d4 : decide ((n : Int) ≤ 4) = true := by simp; omega
      have d5 : decide ((k : Int) + (n : Int) ≤ (s.size : Int)) = true := by simp; omega
      have HS : Hid (Utf.first l ≠ (r, (n : Int), 0) → ∀ j, 1 ≤ j → j < n + 1 → Utf.first l ≠ (Utf.val (l.take j), (j : Int), 0)) := fun hx j h1 h2 => by
        by_cases e : j = n
        · subst e; rw [HR.out]; exact hx
        · exact HN.out j h1 (by omega)
      by_cases hr0 : 0 ≤ r
      · have d0 : decide (0 ≤ r) = true := by simpa using hr0
        by_cases hw : 0 < Utf.width r
        · have dw : decide (0 < Utf.width r) = true := by simpa using hw
          by_cases hf : (Utf.form r).map Utf.u8 = l.take n
          · have HF : Hid (Utf.first l = (r, (n : Int), 0)) := Utf.next_found hw hf (by rw [HLL.out]; omega)
            have hstr : strOfNums (Utf.form r) = s.extract k (k + n) := by
              have : (strOfNums (Utf.form r)).data.toList = (s.extract k (k + n)).data.toList := by rw [strOfNums_data, cutN_toList s k n h5, HL.out]; exact hf
              exact ByteArray.ext (Array.ext' this)
            have HG : Hid (∀ wx, Calls Tryd.prog 61 #[.int .i32 r] wx fun e w' => e = .returned (.string (s.extract k (k + n))) ∧ Below wx.heap.size wx w') := fun wx => by
              have := refForm_any r wx hw
              rw [hstr] at this
              exact this
            clear hstr hf hw
            have z1 : (0 : Int) ≤ (k : Int) := by omega
            have z2 : (k : Int) ≤ (k : Int) + (n : Int) := by omega
            have z3 : (k : Int) + (n : Int) ≤ (s.size : Int) := by omega
            have z4 : IntKind.i64.wrap ((k : Int) + (n : Int)) = (k : Int) + (n : Int) := by rw [IntKind.wrap_i64]; omega
            have z5 : ((k : Int) + (n : Int)).toNat = k + n := by omega
            go_wp2_with (go_at_call 59; refine (HV.out _).mono ?_; rintro e w' ⟨rfl, rfl⟩)
            go_region_held3 (fun _ => True) (trivial) (first | (go_at_call 60; refine (refRight_any _ _).mono ?_; rintro e w' ⟨rfl, rfl⟩) | (go_at_call 61; refine (HG.out _).mono ?_; rintro e w4 ⟨rfl, hb4⟩))
            go_wp2
            go_ret3
            rw [HF.out]
            exact ⟨rfl, hbel.drew.trans (hb4.mono hbel.size)⟩
          · have HNF : Hid (Utf.first l ≠ (r, (n : Int), 0)) := fun e => hf (Utf.first_form e ▸ rfl)
            have hstr : ((strOfNums (Utf.form r)).toList == (s.extract k (k + n)).toList) = false := by
              rw [beq_eq_false_iff_ne, ByteArray.toList_eq, ByteArray.toList_eq, cutN_toList s k n h5, HL.out, strOfNums_data]
              exact hf
            have HG : Hid (∀ wx, _) := fun wx => refForm_any r wx hw
            generalize strOfNums (Utf.form r) = y at HG hstr
            clear hf hw
            have z1 : (0 : Int) ≤ (k : Int) := by omega
            have z2 : (k : Int) ≤ (k : Int) + (n : Int) := by omega
            have z3 : (k : Int) + (n : Int) ≤ (s.size : Int) := by omega
            have z4 : IntKind.i64.wrap ((k : Int) + (n : Int)) = (k : Int) + (n : Int) := by rw [IntKind.wrap_i64]; omega
            have z5 : ((k : Int) + (n : Int)).toNat = k + n := by omega
            go_wp2_with (go_at_call 59; refine (HV.out _).mono ?_; rintro e w' ⟨rfl, rfl⟩)
            go_region_held3 (fun _ => True) (trivial) (first | (go_at_call 60; refine (refRight_any _ _).mono ?_; rintro e w' ⟨rfl, rfl⟩) | (go_at_call 61; refine (HG.out _).mono ?_; rintro e w4 ⟨rfl, hb4⟩))
            go_wp2
            go_roundw
            case rel => exact ⟨n + 1, by omega, by omega, by omega, by go_num, hbel.drew.trans (hb4.mono hbel.size), HS.out HNF.out⟩
            case measure => simp [intOf]; omega
        · have dw : decide (0 < Utf.width r) = false := by simpa using hw
          have HNF : Hid (Utf.first l ≠ (r, (n : Int), 0)) := fun e => by have := Utf.first_width e; omega
          clear hw
          go_wp2_with (go_at_call 59; refine (HV.out _).mono ?_; rintro e w' ⟨rfl, rfl⟩)
          go_quiet ((go_at_call 60; exact Calls.quiet_of_same ((refRight_any _ _).mono (fun _ _ h => ⟨h.1, h.2.symm⟩))))
          go_wp2
          go_roundw
          case rel => exact ⟨n + 1, by omega, by omega, by omega, by go_num, below_drewN hbel _, HS.out HNF.out⟩
          case measure => simp [intOf]; omega
      · have d0 : decide (0 ≤ r) = false := by simpa using hr0
        have HNF : Hid (Utf.first l ≠ (r, (n : Int), 0)) := fun e => by have := Utf.first_width e; omega
        clear hr0
        go_wp2_with (go_at_call 59; refine (HV.out _).mono ?_; rintro e w' ⟨rfl, rfl⟩)
        go_quiet (fail)
        go_wp2
        go_roundw
        case rel => exact ⟨n + 1, by omega, by omega, by omega, by go_num, below_drewN hbel _, HS.out HNF.out⟩
        case measure => simp [intOf]; omega
    · have HC : Hid ((Utf.first l).2.2 ≠ 0) := fun hc => by
        obtain ⟨r, m, hf⟩ : ∃ r m, Utf.first l = (r, m, 0) := ⟨_, _, Prod.ext rfl (Prod.ext rfl hc)⟩
        have hw := Utf.first_width hf
        rw [HLL.out] at hw
        have hv := (Utf.next_val hf).1
        refine HN.out m.toNat (by omega) (by omega) ?_
        rw [hv, hf, show ((m.toNat : Nat) : Int) = m by omega]
      clear HN
      have hrest := cut_size s k
      have HRT : Hid ((s.extract k s.size).data.toList = l) := by show _ = _; rw [cut_toList, HL.out]
      have HNE : Hid (l ≠ []) := fun e => by have := HLL.out; rw [e] at this; simp at this; omega
      have hx : 4 < n ∨ (n ≤ 4 ∧ s.size < k + n) := by omega
      clear hlt
      rcases hx with hx | ⟨hx, hx'⟩
      · go_wp2
        go_loopw [10] (fun i wq => ∃ m : Nat, s.size - k + 1 ≤ m ∧ m ≤ s.size + 1 ∧ i = .int .i64 m ∧ Below w.heap.size w wq) (fun i _ => 5 - (intOf i).toNat)
        case atStart => exact ⟨s.size - k + 1, Nat.le_refl _, by omega, by go_num, hbel⟩
        case round =>
          obtain ⟨m, hm1, hm3, rfl, hbq⟩ := hrel
          have HF : Hid (Utf.first l = (0, 0, 1)) := by
            rcases Utf.code_cases l with h | h | h
            · exact absurd h HC.out
            · exact h
            · obtain ⟨j, j1, j2, j3⟩ := (Utf.code_ends HNE.out HC.out).1 h
              rw [HLL.out] at j1
              omega
          go_wp2
          go_ret3
          rw [HF.out]
          exact ⟨rfl, hbq⟩
      · go_wp2
        go_loopw [10] (fun i wq => ∃ m : Nat, s.size - k + 1 ≤ m ∧ (m ≤ 5 ∨ m = s.size - k + 1) ∧ i = .int .i64 m ∧ Below w.heap.size w wq ∧ Hid (∀ j, l.length < j → j < m → Utf.endsAt l j = false)) (fun i _ => 5 - (intOf i).toNat)
        case atStart => exact ⟨s.size - k + 1, Nat.le_refl _, .inr rfl, by go_num, hbel, fun j h1 h2 => by rw [HLL.out] at h1; omega⟩
        case round =>
          obtain ⟨m, hm1, hm2, rfl, hbq, HM⟩ := hrel
          by_cases h4 : m ≤ 4
          · go_wp2
            go_loopw [11, 12] (fun lo hi wq => ∃ (c : Nat) (x y : ByteArray), lo = .string x ∧ hi = .string y ∧ s.size - k + c ≤ m ∧ x.size = s.size - k + c ∧ y.size = s.size - k + c ∧ Hid (x.data.toList = l ++ List.replicate c 128) ∧ Hid (y.data.toList = l ++ List.replicate c 191) ∧ Below w.heap.size w wq) (fun lo _ _ => m - szOf lo)
            case atStart => exact ⟨0, _, _, rfl, rfl, by omega, by rw [hrest]; omega, by rw [hrest]; omega, by show _ = _; rw [HRT.out]; simp, by show _ = _; rw [HRT.out]; simp, hbq⟩
            case round =>
              obtain ⟨c, x, y, rfl, rfl, hc, hxs, hys, HX, HY, hbp⟩ := hrel
              have hxm : x.size ≤ 4 := by omega
              have hym : y.size ≤ 4 := by omega
              by_cases hcm : s.size - k + c < m
              · have hxl : x.size < m := by omega
                have SX := Hid.mk' hxs
                have SY := Hid.mk' hys
                clear hxs hys
                go_wp2
                go_roundw
                case rel => exact ⟨c + 1, _, _, rfl, rfl, by omega, by rw [push_size, SX.out]; omega, by rw [push_size, SY.out]; omega, by show _ = _; rw [push_list, HX.out, List.append_assoc, rep_snoc], by show _ = _; rw [push_list, HY.out, List.append_assoc, rep_snoc], hbp⟩
                case measure => simp only [szOf, push_size]; omega
              · have hce : c = m - l.length := by rw [HLL.out]; omega
                have hxl : ¬ x.size < m := by omega
                have HVx := Hid.mk' (value_any x wr (by omega) (by omega))
                have HVy := Hid.mk' (value_any y wr (by omega) (by omega))
                rw [HX.out, hce] at HVx
                rw [HY.out, hce] at HVy
                have HE : Hid (Utf.endsAt l m = (decide (0 ≤ Utf.val (l ++ List.replicate (m - l.length) 128)) && decide (0 ≤ Utf.val (l ++ List.replicate (m - l.length) 191)) && Utf.someB (Utf.val (l ++ List.replicate (m - l.length) 128)) (Utf.val (l ++ List.replicate (m - l.length) 191)) m)) := rfl
                have HM2 : Hid (Utf.endsAt l m = false → ∀ j, l.length < j → j < m + 1 → Utf.endsAt l j = false) := fun hx j h1 h2 => by
                  by_cases e : j = m
                  · subst e; exact hx
                  · exact HM.out j h1 (by omega)
                have HT : Hid (Utf.endsAt l m = true → Utf.first l = (0, 0, 2)) := fun hx => (Utf.code_ends HNE.out HC.out).2 ⟨m, by rw [HLL.out]; omega, h4, hx⟩
                generalize Utf.val (l ++ List.replicate (m - l.length) 128) = p at HVx HE
                generalize Utf.val (l ++ List.replicate (m - l.length) 191) = q at HVy HE
                generalize Utf.endsAt l m = en at HE HM2 HT
                clear hce hxs hys
                by_cases hp : 0 ≤ p
                · have dp : decide (0 ≤ p) = true := by simpa using hp
                  by_cases hq : 0 ≤ q
                  · have dq : decide (0 ≤ q) = true := by simpa using hq
                    cases hsm : Utf.someB p q m
                    · have he := HE.out
                      rw [dp, dq, hsm] at he
                      have HF := Hid.mk' (HM2.out he)
                      clear he
                      go_wp2_with fail
                      refine HVx.out.mono ?_
                      rintro e w5 ⟨rfl, rfl⟩
                      go_wp2_with fail
                      refine HVy.out.mono ?_
                      rintro e w5 ⟨rfl, rfl⟩
                      go_wp2_with (go_at_call 62; refine (some_any _ _ _ _).mono ?_; rintro e w6 ⟨rfl, rfl⟩)
                      go_roundw
                      case rel => exact ⟨m + 1, by omega, .inl (by omega), by go_num, hbp, HF.out⟩
                      case measure => simp [intOf]; omega
                    · have he := HE.out
                      rw [dp, dq, hsm] at he
                      have HF := Hid.mk' (HT.out he)
                      clear he
                      go_wp2_with fail
                      refine HVx.out.mono ?_
                      rintro e w5 ⟨rfl, rfl⟩
                      go_wp2_with fail
                      refine HVy.out.mono ?_
                      rintro e w5 ⟨rfl, rfl⟩
                      go_wp2_with (go_at_call 62; refine (some_any _ _ _ _).mono ?_; rintro e w6 ⟨rfl, rfl⟩)
                      go_ret3
                      rw [HF.out]
                      exact ⟨rfl, hbp⟩
                  · have dq : decide (0 ≤ q) = false := by simpa using hq
                    have he := HE.out
                    rw [dp, dq] at he
                    have HF := Hid.mk' (HM2.out he)
                    clear he hq
                    go_wp2_with fail
                    refine HVx.out.mono ?_
                    rintro e w5 ⟨rfl, rfl⟩
                    go_wp2_with fail
                    refine HVy.out.mono ?_
                    rintro e w5 ⟨rfl, rfl⟩
                    go_wp2
                    go_roundw
                    case rel => exact ⟨m + 1, by omega, .inl (by omega), by go_num, hbp, HF.out⟩
                    case measure => simp [intOf]; omega
                · have dp : decide (0 ≤ p) = false := by simpa using hp
                  have he := HE.out
                  rw [dp] at he
                  have HF := Hid.mk' (HM2.out he)
                  clear he hp
                  go_wp2_with fail
                  refine HVx.out.mono ?_
                  rintro e w5 ⟨rfl, rfl⟩
                  go_wp2_with fail
                  refine HVy.out.mono ?_
                  rintro e w5 ⟨rfl, rfl⟩
                  go_wp2
                  go_roundw
                  case rel => exact ⟨m + 1, by omega, .inl (by omega), by go_num, hbp, HF.out⟩
                  case measure => simp [intOf]; omega
          · have HF : Hid (Utf.first l = (0, 0, 1)) := by
              rcases Utf.code_cases l with h | h | h
              · exact absurd h HC.out
              · exact h
              · obtain ⟨j, j1, j2, j3⟩ := (Utf.code_ends HNE.out HC.out).1 h
                have := HM.out j j1 (by omega)
                rw [j3] at this
                cases this
            go_wp2
            go_ret3
            rw [HF.out]
            exact ⟨rfl, hbq⟩
end Go.Proofs.YteflghhpdikidaaDoor

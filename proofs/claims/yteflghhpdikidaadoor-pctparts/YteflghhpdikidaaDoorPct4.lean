/-
  What is proved here: what pct.each does at every text of at most 2^31 bytes, whatever is done with each byte (the function that is handed in, with one captured variable).
-/
import Derived.Test.YteflghhpdikidaaDoorPct2
import Derived.OneCell
namespace Go.Proofs.YteflghhpdikidaaDoor
open Go.RowKit

theorem drop_cons (s : ByteArray) (k : Nat) (h : k < s.size) : s.data.toList.drop k = s[k] :: s.data.toList.drop (k + 1) := by
  have hl : s.data.toList.length = s.size := rfl
  exact List.drop_eq_getElem_cons (l := s.data.toList) (i := k) (by omega)

set_option maxRecDepth 100000 in
set_option maxHeartbeats 2000000 in
theorem each_ok (s : ByteArray) (F B : Nat) (I : List (Nat × UInt8) → World → Prop) (w : World) (hs : s.size ≤ 2147483648) (l : List (Nat × UInt8)) (hun : Pct.un s.data.toList 0 = (l, 0, 0)) (h0 : I [] w)
    (hF : ∀ args w, (callFunc F args).run Tryd.prog w = .ok (.enter F args) w)
    (hmono : ∀ m w' w'', I m w' → Below w'.heap.size w' w'' → I m w'')
    (hstep : ∀ m (k : Nat) (c : UInt8) w', m.length ≤ s.size → I m w' → Calls Tryd.prog F #[.int .i64 k, .int .u8 c.toNat, .pointer (some ⟨B, 0, none⟩)] w' fun e w'' => e = .returned (.tuple #[]) ∧ I (m ++ [(k, c)]) w'') :
    Calls Tryd.prog 25 #[.string s, .func (.func F) #[] #[.pointer (some ⟨B, 0, none⟩)]] w fun e w' => e = .returned .nilIface ∧ I l w' := by
  have hsl : s.data.toList.length = s.size := rfl
  have HSL := Hid.mk' hsl
  have HU := Hid.mk' hun
  have HS := Hid.mk' hstep
  have HM := Hid.mk' hmono
  clear hsl hun hstep hmono
  go_enter Tryd.func25, Tryd.ntmps25
  go_wp2
  go_loopw [5, 6, 7] (fun i _ _ wr => ∃ (k : Nat) (m : List (Nat × UInt8)), k ≤ s.size ∧ m.length ≤ k ∧ i = .int .i64 k ∧ I m wr ∧ Hid (Pct.un s.data.toList 0 = Pct.glue m (Pct.un (s.data.toList.drop k) k))) (fun i _ _ _ => s.size - (intOf i).toNat)
  case atStart => exact ⟨0, [], Nat.zero_le _, Nat.le_refl _, rfl, h0, Pct.glue_start _⟩
  case round =>
    obtain ⟨k, m, hk, hm, rfl, hI, HD⟩ := hrel
    by_cases hlt : k < s.size
    · have HDC := Hid.mk' (drop_cons s k hlt)
      by_cases hp : s[k].toNat = 37
      · have hpz : ((s[k].toNat : Int) != 37) = false := by simp; omega
        obtain ⟨v, c, he⟩ : ∃ v c, Pct.esc (s.data.toList.drop (k + 1)) = (v, c) := ⟨_, _, rfl⟩
        by_cases hc : c = 0
        · subst hc
          obtain ⟨hu1, hv256, hlen⟩ := Pct.un_ok k v hp he
          have hlen' : k + 2 < s.size := by rw [List.length_drop, HSL.out] at hlen; omega
          have HE := Hid.mk' (escaped_ok (s.extract (k + 1) s.size) wr v (by rw [cut_size]; unfold maxLen; omega) (by rw [cut_toList]; exact he))
          have R : Hid (Pct.un s.data.toList 0 = Pct.glue (m ++ [(k, UInt8.ofNat v)]) (Pct.un (s.data.toList.drop (k + 3)) (k + 3))) := by
            show _ = _
            rw [HD.out, HDC.out, hu1, Pct.glue_glue, List.drop_drop]
          have HV : Hid ((v : Int) = ((UInt8.ofNat v).toNat : Int)) := by
            show _ = _
            simp; omega
          clear he hlen hu1
          go_wp2_with fail
          refine HE.out.mono ?_
          rintro e w1 ⟨rfl, hb1⟩
          have HI1 := HM.out _ _ _ hI hb1
          rw [HV.out]
          go_wp2_with fail
          refine (HS.out m k (UInt8.ofNat v) w1 (by omega) HI1).mono ?_
          rintro e w2 ⟨rfl, hI2⟩
          go_wp2
          go_roundw
          case rel => exact ⟨k + 3, m ++ [(k, UInt8.ofNat v)], by omega, by simp; omega, by go_num, hI2, R⟩
          case measure => simp [intOf]; omega
        · have := Pct.un_bad k v c hp he hc
          rw [HD.out, HDC.out, this, Pct.glue_bad _ _ _ hc] at HU
          have := HU.out
          simp at this
          omega
      · have hpz : ((s[k].toNat : Int) != 37) = true := by simp; omega
        have R : Hid (Pct.un s.data.toList 0 = Pct.glue (m ++ [(k, s[k])]) (Pct.un (s.data.toList.drop (k + 1)) (k + 1))) := by
          show _ = _
          rw [HD.out, HDC.out, Pct.un_plain _ _ hp, Pct.glue_glue]
        clear hp
        go_wp2_with fail
        refine (HS.out m k s[k] wr (by omega) hI).mono ?_
        rintro e w2 ⟨rfl, hI2⟩
        go_wp2
        go_roundw
        case rel => exact ⟨k + 1, m ++ [(k, s[k])], by omega, by simp; omega, by go_num, hI2, R⟩
        case measure => simp [intOf]; omega
    · have HE : Hid (m = l) := by
        show _ = _
        have := HU.out
        rw [HD.out, List.drop_of_length_le (by rw [HSL.out]; omega), Pct.un_nil, Pct.glue_nil] at this
        simpa using this
      go_wp2
      go_ret
      rw [← HE.out]
      exact ⟨rfl, hI⟩

set_option maxRecDepth 100000 in
set_option maxHeartbeats 2000000 in
theorem each_err (s : ByteArray) (F B : Nat) (I : List (Nat × UInt8) → World → Prop) (w0 w : World) (p : Nat → Addr) (hg : Gl p w0) (hs : s.size ≤ 2147483648) (ka ce : Nat) (hun : Pct.un s.data.toList 0 = ([], ka, ce)) (hce : ce ≠ 0) (h0 : I [] w) (hbel : ∀ m w', I m w' → Below w0.heap.size w0 w')
    (hF : ∀ args w, (callFunc F args).run Tryd.prog w = .ok (.enter F args) w)
    (hmono : ∀ m w' w'', I m w' → Below w'.heap.size w' w'' → I m w'')
    (hstep : ∀ m (k : Nat) (c : UInt8) w', m.length ≤ s.size → I m w' → Calls Tryd.prog F #[.int .i64 k, .int .u8 c.toNat, .pointer (some ⟨B, 0, none⟩)] w' fun e w'' => e = .returned (.tuple #[]) ∧ I (m ++ [(k, c)]) w'') :
    Calls Tryd.prog 25 #[.string s, .func (.func F) #[] #[.pointer (some ⟨B, 0, none⟩)]] w fun e w' => ∃ b, e = .returned (.iface 57 (.pointer (some ⟨b, 0, none⟩))) ∧ Flt w' (.iface 57 (.pointer (some ⟨b, 0, none⟩))) w0.heap.size ka (p ce) ∧ Below w0.heap.size w0 w' := by
  have hsl : s.data.toList.length = s.size := rfl
  have HSL := Hid.mk' hsl
  have HU := Hid.mk' hun
  have HS := Hid.mk' hstep
  have HM := Hid.mk' hmono
  have HB := Hid.mk' hbel
  have HG := Hid.mk' hg
  have HCE := Hid.mk' hce
  clear hsl hun hstep hmono hbel hg hce
  go_enter Tryd.func25, Tryd.ntmps25
  go_wp2
  go_loopw [5, 6, 7] (fun i _ _ wr => ∃ (k : Nat) (m : List (Nat × UInt8)), k ≤ s.size ∧ m.length ≤ k ∧ i = .int .i64 k ∧ I m wr ∧ Hid (Pct.un s.data.toList 0 = Pct.glue m (Pct.un (s.data.toList.drop k) k))) (fun i _ _ _ => s.size - (intOf i).toNat)
  case atStart => exact ⟨0, [], Nat.zero_le _, Nat.le_refl _, rfl, h0, Pct.glue_start _⟩
  case round =>
    obtain ⟨k, m, hk, hm, rfl, hI, HD⟩ := hrel
    by_cases hlt : k < s.size
    · have HDC := Hid.mk' (drop_cons s k hlt)
      by_cases hp : s[k].toNat = 37
      · have hpz : ((s[k].toNat : Int) != 37) = false := by simp; omega
        obtain ⟨v, c, he⟩ : ∃ v c, Pct.esc (s.data.toList.drop (k + 1)) = (v, c) := ⟨_, _, rfl⟩
        by_cases hc : c = 0
        · subst hc
          obtain ⟨hu1, hv256, hlen⟩ := Pct.un_ok k v hp he
          have hlen' : k + 2 < s.size := by rw [List.length_drop, HSL.out] at hlen; omega
          have HE := Hid.mk' (escaped_ok (s.extract (k + 1) s.size) wr v (by rw [cut_size]; unfold maxLen; omega) (by rw [cut_toList]; exact he))
          have R : Hid (Pct.un s.data.toList 0 = Pct.glue (m ++ [(k, UInt8.ofNat v)]) (Pct.un (s.data.toList.drop (k + 3)) (k + 3))) := by
            show _ = _
            rw [HD.out, HDC.out, hu1, Pct.glue_glue, List.drop_drop]
          have HV : Hid ((v : Int) = ((UInt8.ofNat v).toNat : Int)) := by
            show _ = _
            simp; omega
          clear he hlen hu1
          go_wp2_with fail
          refine HE.out.mono ?_
          rintro e w1 ⟨rfl, hb1⟩
          have HI1 := HM.out _ _ _ hI hb1
          rw [HV.out]
          go_wp2_with fail
          refine (HS.out m k (UInt8.ofNat v) w1 (by omega) HI1).mono ?_
          rintro e w2 ⟨rfl, hI2⟩
          go_wp2
          go_roundw
          case rel => exact ⟨k + 3, m ++ [(k, UInt8.ofNat v)], by omega, by simp; omega, by go_num, hI2, R⟩
          case measure => simp [intOf]; omega
        · have HX : Hid (k = ka ∧ c = ce) := by
            show _ ∧ _
            have := HU.out
            rw [HD.out, HDC.out, Pct.un_bad k v c hp he hc, Pct.glue_bad _ _ _ hc] at this
            simpa using this
          have hb0 := HB.out _ _ hI
          have HE := Hid.mk' (escaped_err (s.extract (k + 1) s.size) wr p (by rw [cut_size]; unfold maxLen; omega) (HG.out.below hb0) v c (by rw [cut_toList]; exact he) hc)
          clear he
          go_wp2_with (go_at_call 41; refine HE.out.mono ?_; rintro e w1 ⟨rfl, hb1⟩)
          go_ret
          obtain ⟨rfl, rfl⟩ := HX.out
          have hb2 := hb0.trans (hb1.mono hb0.size)
          exact ⟨w1.heap.size, rfl, ⟨w1.heap.size, hb2.size, rfl, by simp, by simp⟩, hb2.alloc hb2.size _⟩
      · have hpz : ((s[k].toNat : Int) != 37) = true := by simp; omega
        have R : Hid (Pct.un s.data.toList 0 = Pct.glue (m ++ [(k, s[k])]) (Pct.un (s.data.toList.drop (k + 1)) (k + 1))) := by
          show _ = _
          rw [HD.out, HDC.out, Pct.un_plain _ _ hp, Pct.glue_glue]
        clear hp
        go_wp2_with fail
        refine (HS.out m k s[k] wr (by omega) hI).mono ?_
        rintro e w2 ⟨rfl, hI2⟩
        go_wp2
        go_roundw
        case rel => exact ⟨k + 1, m ++ [(k, s[k])], by omega, by simp; omega, by go_num, hI2, R⟩
        case measure => simp [intOf]; omega
    · exfalso
      have := HU.out
      rw [HD.out, List.drop_of_length_le (by rw [HSL.out]; omega), Pct.un_nil, Pct.glue_nil] at this
      simp at this
      exact HCE.out this.2.2.symm
end Go.Proofs.YteflghhpdikidaaDoor

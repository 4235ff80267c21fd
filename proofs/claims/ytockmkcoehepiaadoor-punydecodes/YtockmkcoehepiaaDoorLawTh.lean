/-
  What is proved here: what the document's Lower answers; what the law PunyThere answers.
-/
import Derived.Test.YtockmkcoehepiaaDoorZE
namespace Go.Proofs.YtockmkcoehepiaaDoor
open Go.RowKit

theorem size_strOf (l : List Int) : (strOfNums l).size = l.length := strOfNums_size l
/-- behind the last hyphen among the first bytes, but for the first one -/
def IsFromK (bs : List Int) (k f : Nat) : Prop := f ≤ k ∧ (f = 0 ∨ (2 ≤ f ∧ bs.getD (f - 1) 0 = 45)) ∧ ∀ i, 1 ≤ i → f ≤ i → i < k → bs.getD i 0 ≠ 45
theorem fromK_hit {bs : List Int} {k f : Nat} (_h : IsFromK bs k f) (hk : 1 ≤ k) (e : bs.getD k 0 = 45) : IsFromK bs (k + 1) (k + 1) :=
  ⟨Nat.le_refl _, .inr ⟨by omega, by rw [Nat.add_sub_cancel]; exact e⟩, fun i _ h1 h2 => by omega⟩
theorem fromK_miss {bs : List Int} {k f : Nat} (h : IsFromK bs k f) (e : bs.getD k 0 ≠ 45) : IsFromK bs (k + 1) f :=
  ⟨by have := h.1; omega, h.2.1, fun i h0 h1 h2 => by
    rcases Nat.lt_or_ge i k with q | q
    · exact h.2.2 i h0 h1 q
    · obtain rfl : i = k := by omega
      exact e⟩
theorem strOf_bytes (s : ByteArray) : strOfNums (bytesM s) = s := by
  apply ByteArray.ext
  apply Array.ext'
  unfold strOfNums bytesM
  rw [List.map_map]
  conv => rhs; rw [← List.map_id s.data.toList]
  refine List.map_congr_left (fun c _ => ?_)
  simp
theorem extract_strOf (s : ByteArray) (k : Nat) : s.extract 0 k = strOfNums ((bytesM s).take k) := by
  rw [← bytes_take, strOf_bytes]
set_option maxRecDepth 20000 in
set_option maxHeartbeats 1000000 in
theorem refLower_any (s : ByteArray) (w : World) (hs : s.size ≤ 120) :
    Calls Tryd.prog 33 #[.string s] w fun e w' => e = .returned (.string (strOfNums (lowerM (bytesM s) (fromOf s)))) ∧ Below w.heap.size w w' := by
  have HF : Hid (∀ f, IsFromK (bytesM s) (max 1 s.size) f → f = fromOf s) := fun f hf => from_unique (bs := bytesM s) ⟨by
      rcases hf.2.1 with h | ⟨h, h'⟩
      · omega
      · have := hf.1
        rw [bytes_len]
        omega, hf.2.1, fun i h0 h1 h2 => hf.2.2 i h0 h1 (by rw [bytes_len] at h2; omega)⟩ (from_is s)
  have hFl : fromOf s ≤ s.size := by have := (from_is s).1; rw [bytes_len] at this; exact this
  have HAT : Hid (∀ k (h : k < s.size), (bytesM s).getD k 0 = ((s[k]'h).toNat : Int)) := fun k h => bytes_at s k h
  have HX : Hid (∀ k, s.extract 0 k = strOfNums ((bytesM s).take k)) := fun k => extract_strOf s k
  have HLW : Hid (∀ F k (h : k < s.size), F ≤ k → (bytesM s).take F ++ (((bytesM s).drop F).take (k - F)).map lowM ++ [lowM ((s[k]'h).toNat : Int)] = (bytesM s).take F ++ (((bytesM s).drop F).take (k + 1 - F)).map lowM) := fun F k h hF => by
    have e : ((bytesM s).drop F).take (k + 1 - F) = ((bytesM s).drop F).take (k - F) ++ [((s[k]'h).toNat : Int)] := by
      rw [show k + 1 - F = (k - F) + 1 by omega, List.take_succ_eq_append_getElem (by rw [List.length_drop, bytes_len]; omega)]
      congr 2
      rw [List.getElem_drop]
      have := bytes_at s k h
      rw [List.getD_eq_getElem?_getD, List.getElem?_eq_getElem (by rw [bytes_len]; exact h)] at this
      simp only [show F + (k - F) = k by omega]
      exact this
    rw [e]
    simp
  have HFIN : Hid (∀ F, (bytesM s).take F ++ (((bytesM s).drop F).take (s.size - F)).map lowM = lowerM (bytesM s) F) := fun F => by
    show _ = _
    unfold lowerM
    rw [List.take_of_length_le (l := (bytesM s).drop F) (by rw [List.length_drop, bytes_len]; exact Nat.le_refl _)]
  have HZ : Hid (∀ F, F ≤ s.size → ((bytesM s).take F).length = F) := fun F hF => by show _ = _; rw [List.length_take, bytes_len]; omega
  go_enter Tryd.func33, Tryd.ntmps33
  go_wp2
  go_loop [3, 4] (fun x y => ∃ f k : Nat, x = .int .i64 f ∧ y = .int .i64 k ∧ 1 ≤ k ∧ k ≤ max 1 s.size ∧ f ≤ k ∧ Hid (IsFromK (bytesM s) k f)) (fun _ y => s.size - (intOf y).toNat)
  case atStart => exact ⟨0, 1, rfl, rfl, by omega, by omega, by omega, Nat.zero_le _, .inl rfl, fun i h0 h1 h2 => by omega⟩
  case round =>
    obtain ⟨f, k, rfl, rfl, hk1, hk2, hfk, HI⟩ := hrel
    by_cases hlt : k < s.size
    · have hb := UInt8.toNat_lt (s[k]'hlt)
      have hlz : (k : Int) < (s.size : Int) := by omega
      have ha := HAT.out k hlt
      by_cases h45 : ((s[k]'hlt).toNat : Int) = 45
      · have HN : Hid (IsFromK (bytesM s) (k + 1) (k + 1)) := fromK_hit HI.out hk1 (by rw [ha]; exact h45)
        have hq : (((s[k]'hlt).toNat : Int) == 45) = true := by simpa using h45
        clear ha h45 HI
        go_wp2
        go_round
        case rel => exact ⟨k + 1, k + 1, by go_num, by go_num, by omega, by omega, by omega, HN⟩
        case measure => simp [intOf]; omega
      · have HN : Hid (IsFromK (bytesM s) (k + 1) f) := fromK_miss HI.out (by rw [ha]; exact h45)
        have hq : (((s[k]'hlt).toNat : Int) == 45) = false := by simpa using h45
        clear ha h45 HI
        go_wp2
        go_round
        case rel => exact ⟨f, k + 1, rfl, by go_num, by omega, by omega, by omega, HN⟩
        case measure => simp [intOf]; omega
    · have hlz : decide ((k : Int) < (s.size : Int)) = false := decide_eq_false (by omega)
      have hfe := HF.out f (by rw [show max 1 s.size = k by omega]; exact HI.out)
      subst hfe
      have HX0 := Hid.mk' (HX.out (fromOf s))
      clear HI
      have hf0 : (0 : Int) ≤ (fromOf s : Int) := by omega
      have hf1 : (fromOf s : Int) ≤ (s.size : Int) := by omega
      go_wp2
      go_loopw [5, 6] (fun x y wr => ∃ (t : ByteArray) (k : Nat), x = .string t ∧ y = .int .i64 k ∧ fromOf s ≤ k ∧ k ≤ s.size ∧ t.size ≤ k ∧ Hid (t = strOfNums ((bytesM s).take (fromOf s) ++ (((bytesM s).drop (fromOf s)).take (k - fromOf s)).map lowM)) ∧ Below w.heap.size w wr) (fun _ y _ => s.size - (intOf y).toNat)
      case atStart => exact ⟨_, fromOf s, rfl, rfl, Nat.le_refl _, hFl, by rw [HX0.out, size_strOf, HZ.out _ hFl]; exact Nat.le_refl _, by show _ = _; rw [HX0.out, Nat.sub_self]; simp, Below.refl _ _⟩
      case round =>
        obtain ⟨t, k2, rfl, rfl, hk3, hk4, htz, HT, hbw⟩ := hrel
        by_cases hlt2 : k2 < s.size
        · have hb := UInt8.toNat_lt (s[k2]'hlt2)
          have hlz2 : (k2 : Int) < (s.size : Int) := by omega
          have HL2 := Hid.mk' (HLW.out (fromOf s) k2 hlt2 hk3)
          have HLM : Hid (lowM ((s[k2]'hlt2).toNat : Int) = if 65 ≤ ((s[k2]'hlt2).toNat : Int) ∧ ((s[k2]'hlt2).toNat : Int) ≤ 90 then ((s[k2]'hlt2).toNat : Int) + 32 else ((s[k2]'hlt2).toNat : Int)) := rfl
          have hcv : ∀ x : Int, _ := fun x => conv_one wr x
          have hz : ∀ x : Int, (strOfNums [x]).size = 1 := fun x => strOfNums_size _
          have HNT : Hid (t ++ strOfNums [lowM ((s[k2]'hlt2).toNat : Int)] = strOfNums ((bytesM s).take (fromOf s) ++ (((bytesM s).drop (fromOf s)).take (k2 + 1 - fromOf s)).map lowM)) := by
            show _ = _
            rw [HT.out, strOf_append, HL2.out]
          clear HT HL2
          by_cases hcap : 65 ≤ ((s[k2]'hlt2).toNat : Int) ∧ ((s[k2]'hlt2).toNat : Int) ≤ 90
          · rw [if_pos hcap] at HLM
            rw [HLM.out] at HNT
            obtain ⟨hc1, hc2⟩ := hcap
            clear HLM
            go_wp2
            go_roundw
            case rel => exact ⟨_, k2 + 1, rfl, by go_num, by omega, by omega, by rw [ByteArray.size_append, hz]; omega, HNT, hbw.alloc hbw.size _⟩
            case measure => simp [intOf]; omega
          · rw [if_neg hcap] at HLM
            rw [HLM.out] at HNT
            clear HLM
            by_cases hc1 : 65 ≤ ((s[k2]'hlt2).toNat : Int)
            · have hc2 : decide (((s[k2]'hlt2).toNat : Int) ≤ 90) = false := decide_eq_false (by omega)
              have hc3 : 90 < ((s[k2]'hlt2).toNat : Int) := by omega
              clear hcap
              go_wp2
              go_roundw
              case rel => exact ⟨_, k2 + 1, rfl, by go_num, by omega, by omega, by rw [ByteArray.size_append, hz]; omega, HNT, hbw.alloc hbw.size _⟩
              case measure => simp [intOf]; omega
            · have hc2 : decide (65 ≤ ((s[k2]'hlt2).toNat : Int)) = false := decide_eq_false hc1
              have hc3 : ((s[k2]'hlt2).toNat : Int) < 65 := by omega
              clear hcap
              go_wp2
              go_roundw
              case rel => exact ⟨_, k2 + 1, rfl, by go_num, by omega, by omega, by rw [ByteArray.size_append, hz]; omega, HNT, hbw.alloc hbw.size _⟩
              case measure => simp [intOf]; omega
        · obtain rfl : k2 = s.size := by omega
          have hlz2 : decide ((s.size : Int) < (s.size : Int)) = false := by simp
          have HFT : Hid (t = strOfNums (lowerM (bytesM s) (fromOf s))) := by show _ = _; rw [HT.out, HFIN.out]
          clear HT
          go_wp2
          go_ret
          exact ⟨by rw [← HFT.out]; rfl, hbw⟩
theorem own_runesC {w : World} {B : Nat} {v : Value} {l : List Int} (h : w.ownsRow B 21 1 v l.length (cellsOf l)) : ∃ a cap, v = .slice a l.length cap ∧ RunesC w a cap l := by
  rcases h.2 with ⟨rfl, h0⟩ | ⟨g, cap, cur, rfl, hB, hg, hn, hm, hs, ht⟩
  · exact ⟨none, 0, by rw [h0], by omega, fun j hj => by omega⟩
  · refine ⟨some ⟨g, 0, none⟩, cap, rfl, hn, fun j hj => ⟨g, 0, rfl, ?_⟩⟩
    rw [Nat.zero_add, h.cellAt j (by omega)]
    simp [cellsOf, List.getElem?_eq_getElem hj]
theorem high_bytes {s : ByteArray} (h : highAt s = -1) : ∀ b ∈ bytesM s, 0 ≤ b ∧ b ≤ 127 := by
  intro b hb
  rcases high_spec s s.size 0 (by omega) with ⟨-, hn⟩ | ⟨i, e, -⟩
  · obtain ⟨j, hj, rfl⟩ := List.getElem_of_mem hb
    rw [bytes_len] at hj
    have e := bytes_at s j hj
    rw [List.getD_eq_getElem?_getD, List.getElem?_eq_getElem (by rw [bytes_len]; exact hj)] at e
    have := hn j (Nat.zero_le _) hj
    simp only [Option.getD_some] at e
    omega
  · unfold highAt at h; omega
theorem low_len (bs : List Int) (f : Nat) : (lowerM bs f).length = bs.length := by
  unfold lowerM
  simp
  omega
/-- what Decode answers at any text that isn't too long -/
theorem decode_all (s : ByteArray) (w : World) (p : Nat → Addr) (hg : Gl p w) (hs : s.size ≤ 120) :
    Calls Tryd.prog 27 #[.string s] w fun e w' => (∃ fv, e = .returned (.tuple #[.slice none 0 0, fv]) ∧ (∃ b, fv = .iface 62 (.pointer (some ⟨b, 0, none⟩))) ∧ Below w.heap.size w w') ∨ (highAt s = -1 ∧ ∃ out v, decM (bytesM s) (fromOf s) = .ok out ∧ e = .returned (.tuple #[v, .nilIface]) ∧ w'.ownsRow w.heap.size 21 1 v out.length (cellsOf out) ∧ Below w.heap.size w w') := by
  rcases high_spec s s.size 0 (by omega) with ⟨e, -⟩ | ⟨i, e, -⟩
  · refine (decode_run s w p hg hs e).mono ?_
    intro e' w' h
    cases hd : decM (bytesM s) (fromOf s) with
    | bad a c =>
      rw [hd] at h
      obtain ⟨fv, h1, ⟨b, -, h2, -, -⟩, h3⟩ := h
      exact .inl ⟨fv, h1, ⟨b, h2⟩, h3⟩
    | ok out =>
      rw [hd] at h
      obtain ⟨v, h1, h2, h3⟩ := h
      exact .inr ⟨e, out, v, rfl, h1, h2, h3⟩
  · refine (decode_high' s w p hg hs i e).mono ?_
    rintro e' w' ⟨fv, h1, ⟨b, -, h2, -, -⟩, h3⟩
    exact .inl ⟨fv, h1, ⟨b, h2⟩, h3⟩
set_option maxRecDepth 20000 in
set_option maxHeartbeats 1000000 in
theorem there_any (w : World) (p : Nat → Addr) (hg : Gl p w ∧ Et w) (s : ByteArray) (hs : s.size ≤ maxLen) :
    Calls Tryd.prog 11 #[.string s] w fun e w' => e = .returned (.bool true) ∧ Below w.heap.size w w' := by
  unfold maxLen at hs
  have HA := Hid.mk' (awake6_any w p hg.1 hg.2)
  by_cases h120 : s.size ≤ 120
  · have hd : decide (120 < s.size) = false := decide_eq_false (by omega)
    have HD : Hid (∀ W, Below w.heap.size w W → _) := fun W hW => decode_all s W p (hg.1.below hW) h120
    have HL : Hid (∀ W, _) := fun W => refLower_any s W h120
    have HE : Hid (∀ W v out, Below w.heap.size w W → highAt s = -1 → decM (bytesM s) (fromOf s) = .ok out → W.ownsRow w.heap.size 21 1 v out.length (cellsOf out) → Calls Tryd.prog 25 #[v] W fun e w' => e = .returned (.tuple #[.string (strOfNums (lowerM (bytesM s) (fromOf s))), .nilIface]) ∧ Below W.heap.size W w') := fun W v out hW hh hd' ho => by
      obtain ⟨a, cap, rfl, hr⟩ := own_runesC ho
      obtain ⟨t1, t2, t3⟩ := there_is (from_is s) (high_bytes hh) out hd'
      rw [bytes_len] at t3
      have hlen : (encM out).length ≤ 120 := by rw [t1, low_len, bytes_len]; exact h120
      refine (encode_run a cap out W p (hg.1.below hW) hr (by omega) (wrong_none.2 t2)).mono ?_
      rintro e w' ⟨h, hb⟩
      refine ⟨?_, hb⟩
      rcases h with ⟨-, h⟩ | ⟨h, -⟩
      · rw [h, t1]
      · omega
    generalize strOfNums (lowerM (bytesM s) (fromOf s)) = T at *
    clear hg
    go_enter Tryd.func11, Tryd.ntmps11
    go_wp2_with fail
    refine HA.out.mono ?_
    rintro e w1 ⟨rfl, hb1⟩
    go_wp2_with fail
    refine (HD.out w1 hb1).mono ?_
    rintro e w2 (⟨fv, rfl, ⟨b, rfl⟩, hb2⟩ | ⟨hh, out, v, hd', rfl, hown, hb2⟩)
    · go_wp2
      go_ret
      exact ⟨rfl, hb1.trans (hb2.mono hb1.size)⟩
    · have hb12 := hb1.trans (hb2.mono hb1.size)
      have HE2 := Hid.mk' (HE.out w2 v out hb12 hh hd' (own_weaken hown hb1.size))
      obtain ⟨va, vcp, rfl⟩ := own_slice hown
      clear hown hh hd' HE
      go_wp2_with fail
      refine HE2.out.mono ?_
      rintro e w3 ⟨rfl, hb3⟩
      have hb13 := hb12.trans (hb3.mono hb12.size)
      go_wp2_with (go_at_call 33; refine (HL.out _).mono ?_; rintro e w4 ⟨rfl, hb4⟩)
      go_ret
      exact ⟨rfl, hb13.trans (hb4.mono hb13.size)⟩
  · have hd : decide (120 < s.size) = true := decide_eq_true (by omega)
    clear hg
    go_enter Tryd.func11, Tryd.ntmps11
    go_wp2_with fail
    refine HA.out.mono ?_
    rintro e w1 ⟨rfl, hb1⟩
    go_wp2
    go_ret
    exact ⟨rfl, hb1⟩
end Go.Proofs.YtockmkcoehepiaaDoor

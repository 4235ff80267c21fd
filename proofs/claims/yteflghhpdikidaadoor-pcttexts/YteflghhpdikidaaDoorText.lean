/-
  What is proved here: what pct.Text and the reference's Text (layer 2) answer.
-/
import Derived.Test.YteflghhpdikidaaDoorPlaced
import Derived.Test.YteflghhpdikidaaDoorLawU
import Derived.Test.YteflghhpdikidaaDoorRefD
namespace Go.Proofs.YteflghhpdikidaaDoor
open Go.RowKit

theorem Utf.dec_place : ∀ (m : Nat) (l : List UInt8) (a : Nat), l.length ≤ m → (Utf.dec l a).2.2 ≠ 0 → a ≤ (Utf.dec l a).2.1 ∧ (Utf.dec l a).2.1 < a + l.length := by
  intro m
  induction m with
  | zero =>
    intro l a hl h
    have : l = [] := List.eq_nil_of_length_eq_zero (by omega)
    subst this
    exact absurd (by rw [Utf.dec_nil]) h
  | succ m ih =>
    intro l a hl h
    by_cases hn : l = []
    · subst hn
      exact absurd (by rw [Utf.dec_nil]) h
    · have hpos : 0 < l.length := List.length_pos_iff.2 hn
      by_cases hc : (Utf.first l).2.2 = 0
      · obtain ⟨r, n, hf⟩ : ∃ r n, Utf.first l = (r, n, 0) := ⟨_, _, Prod.ext rfl (Prod.ext rfl hc)⟩
        have hw := Utf.first_width hf
        rw [Utf.dec_step a hf] at h ⊢
        have := ih (l.drop n.toNat) (a + n.toNat) (by rw [List.length_drop]; omega)
        unfold Utf.glue at h ⊢
        split at h
        · exact absurd rfl h
        · rename_i h2
          have := this h2
          rw [List.length_drop] at this
          rw [if_neg h2]
          show a ≤ (Utf.dec (l.drop n.toNat) (a + n.toNat)).2.1 ∧ (Utf.dec (l.drop n.toNat) (a + n.toNat)).2.1 < a + l.length
          omega
      · rw [Utf.dec_bad a hn hc]
        show a ≤ a ∧ a < _
        omega
theorem dec_cases (l : List UInt8) : (∃ rs, Utf.dec l 0 = (rs, 0, 0)) ∨ (∃ k c, Utf.dec l 0 = ([], k, c) ∧ (c = 1 ∨ c = 2) ∧ k < l.length) := by
  obtain ⟨h1, h2⟩ := Utf.dec_both l 0
  rcases Utf.dec_codes _ l 0 (Nat.le_refl _) with h | h
  · exact .inl ⟨_, Prod.ext rfl (Prod.ext (h1 h) h)⟩
  · have hp := Utf.dec_place _ l 0 (Nat.le_refl _) (by omega)
    exact .inr ⟨(Utf.dec l 0).2.1, (Utf.dec l 0).2.2, Prod.ext (h2 (by omega)) rfl, h, by simpa using hp.2⟩

theorem enters_text1 : ∀ args w, (callFunc 39 args).run Tryd.prog w = .ok (.enter 39 args) w := enters_of Tryd.func39 (by kernel_rfl) rfl

set_option maxHeartbeats 1000000 in
theorem text1_any (B k : Nat) (s : ByteArray) (w : World) (hs : s.size ≤ 2147483648) (hc : w.cell? ⟨B, 0, none⟩ = some (.string s)) (l : List (Nat × UInt8)) (hu : Pct.un s.data.toList 0 = (l, 0, 0)) (hk : k < l.length) :
    Calls Tryd.prog 39 #[.int .i64 k, .pointer (some ⟨B, 0, none⟩)] w fun e w' => e = .returned (.int .i64 ((l.map fun x => (x.1 : Int)).getD k 0)) ∧ Below w.heap.size w w' := by
  have hll : l.length ≤ s.size := by have := un_len s.data.toList 0; rw [hu] at this; exact this
  have HP := Hid.mk' (places_ok s w hs l hu)
  have hkn : k < (l.map fun x => (x.1 : Int)).length := by rw [List.length_map]; exact hk
  have hnl : (l.map fun x => (x.1 : Int)).length ≤ 2147483648 := by rw [List.length_map]; omega
  generalize (l.map fun x => (x.1 : Int)) = ns at *
  clear hu hk hll
  go_enter Tryd.func39, Tryd.ntmps39
  go_wp2_with fail
  refine HP.out.mono ?_
  rintro e w1 ⟨v, rfl, ⟨a, c, rfl, hn⟩, hb⟩
  obtain ⟨ba, oa, rfl, ca⟩ := hn k hkn
  obtain ⟨r, hr⟩ : ∃ r, r = ns.getD k 0 := ⟨_, rfl⟩
  rw [← hr] at ca
  have HR := Hid.mk' hr
  clear hn hr
  go_wp2
  go_ret
  exact ⟨ret_int HR.out, hb⟩

set_option maxHeartbeats 1000000 in
theorem text_ok (s : ByteArray) (w : World) (p : Nat → Addr) (hg : Gl p w) (hs : s.size ≤ 2147483648) (l : List (Nat × UInt8)) (hu : Pct.un s.data.toList 0 = (l, 0, 0)) (rs : List Int) (hd : Utf.dec (l.map (·.2)) 0 = (rs, 0, 0)) :
    Calls Tryd.prog 22 #[.string s] w fun e w' => ∃ v, e = .returned (.tuple #[v, .nilIface]) ∧ Runes w' v rs ∧ Below w.heap.size w w' := by
  have hll : l.length ≤ s.size := by have := un_len s.data.toList 0; rw [hu] at this; exact this
  have HU : Hid (∀ w1, _) := fun w1 => unescape_ok s w1 hs l hu
  have HD : Hid (∀ w1, Below w.heap.size w w1 → _) := fun w1 hb => decode_ok (Pct.str l) w1 p (by rw [str_size]; omega) (hg.below hb) rs hd
  clear hg hu hd hll
  generalize Pct.str l = t at *
  go_enter Tryd.func22, Tryd.ntmps22
  go_wp2_with fail
  refine (HU.out _).mono ?_
  rintro e w1 ⟨rfl, hb1⟩
  have h1 := ((Below.refl _ w).alloc (Nat.le_refl _) (.cells #[.string s] 9)).trans (hb1.mono (by simp))
  go_wp2_with fail
  refine (HD.out w1 h1).mono ?_
  rintro e w2 ⟨v, rfl, ho, hb2⟩
  have HO := Hid.mk' (Runes.own ho)
  have h2 := h1.trans (hb2.mono h1.size)
  clear ho
  go_wp2_with (go_at_call 36; refine (placed_nil _ _ _).mono ?_; rintro e w3 ⟨rfl, hb3⟩)
  go_ret2
  exact ⟨_, rfl, HO.out.below hb3, h2.trans (hb3.mono h2.size)⟩

set_option maxHeartbeats 1000000 in
theorem text_bad (s : ByteArray) (w : World) (p : Nat → Addr) (hg : Gl p w) (hs : s.size ≤ 2147483648) (l : List (Nat × UInt8)) (hu : Pct.un s.data.toList 0 = (l, 0, 0)) (k c : Nat) (hd : Utf.dec (l.map (·.2)) 0 = ([], k, c)) (hc : c ≠ 0) (hk : k < l.length) :
    Calls Tryd.prog 22 #[.string s] w fun e w' => ∃ v, e = .returned (.tuple #[.slice none 0 0, v]) ∧ Flt w' v w.heap.size ((l.map fun x => (x.1 : Int)).getD k 0) (p c) ∧ Below w.heap.size w w' := by
  have hll : l.length ≤ s.size := by have := un_len s.data.toList 0; rw [hu] at this; exact this
  have HU : Hid (∀ w1, _) := fun w1 => unescape_ok s w1 hs l hu
  have HD : Hid (∀ w1, Below w.heap.size w w1 → _) := fun w1 hb => decode_err (Pct.str l) w1 p (by rw [str_size]; omega) (hg.below hb) k c hd hc
  have HC : Hid (∀ w1 : World, w1.cell? ⟨w.heap.size, 0, none⟩ = some (Value.string s) → _) := fun w1 hc => text1_any w.heap.size k s w1 hs hc l hu hk
  have HG := Hid.mk' hg
  clear hg hu hd hll hk
  generalize (l.map fun x => (x.1 : Int)).getD k 0 = r at *
  generalize Pct.str l = t at *
  go_enter Tryd.func22, Tryd.ntmps22
  go_wp2_with fail
  refine (HU.out _).mono ?_
  rintro e w1 ⟨rfl, hb1⟩
  have h1 := ((Below.refl _ w).alloc (Nat.le_refl _) (.cells #[.string s] 9)).trans (hb1.mono (by simp))
  have c1 := (hb1.cell (p := ⟨w.heap.size, 0, none⟩) (by simp)).trans (World.cell?_alloc_new ..)
  simp at c1
  go_wp2_with fail
  refine (HD.out w1 h1).mono ?_
  rintro e w2 ⟨b, rfl, hf, hb2⟩
  have h2 := h1.trans (hb2.mono h1.size)
  have c2 := (hb2.cell (p := ⟨w.heap.size, 0, none⟩) (lt_of_cell c1)).trans c1
  obtain ⟨b', -, hbe, f0, f1⟩ := hf
  obtain rfl : b = b' := by simpa using hbe
  have HP := Hid.mk' (placed_fault 39 w.heap.size b k r (p c) w2 enters_text1 (fun w3 hb => HC.out w3 ((hb.cell (p := ⟨w.heap.size, 0, none⟩) (lt_of_cell c2)).trans c2)) (HG.out.below h2).et f0 f1)
  clear f0 f1 hbe hb1 hb2 c1
  go_wp2_with (go_at_call 36; refine HP.out.mono ?_; rintro e w3 ⟨v, rfl, hv, hb3⟩)
  go_ret2
  exact ⟨v, rfl, hv.weaken h2.size rfl, h2.trans (hb3.mono h2.size)⟩

set_option maxHeartbeats 1000000 in
theorem text_err (s : ByteArray) (w : World) (p : Nat → Addr) (hg : Gl p w) (hs : s.size ≤ 2147483648) (k c : Nat) (hu : Pct.un s.data.toList 0 = ([], k, c)) (hc : c ≠ 0) :
    Calls Tryd.prog 22 #[.string s] w fun e w' => ∃ v, e = .returned (.tuple #[.slice none 0 0, v]) ∧ Flt w' v w.heap.size k (p c) ∧ Below w.heap.size w w' := by
  have hb0 : Below w.heap.size w (w.alloc (.cells #[.string s] 9)) := (Below.refl _ w).alloc (Nat.le_refl _) _
  have HU := Hid.mk' (unescape_err s (w.alloc (.cells #[.string s] 9)) p (hg.below hb0) hs k c hu hc)
  clear hg hu
  go_enter Tryd.func22, Tryd.ntmps22
  go_wp2_with fail
  refine HU.out.mono ?_
  rintro e w1 ⟨b, rfl, hf, hb1⟩
  have HF := Hid.mk' hf
  clear hf
  go_wp2
  go_ret2
  exact ⟨_, rfl, HF.out.weaken (by simp) rfl, hb0.trans (hb1.mono hb0.size)⟩

set_option maxHeartbeats 1000000 in
theorem same_any (va vb : Value) (rs : List Int) (w : World) (hl : rs.length ≤ 268435456) (ha : Runes w va rs) (hb : Runes w vb rs) :
    Calls Tryd.prog 24 #[va, vb] w fun e w' => e = .returned (.bool true) ∧ Below w.heap.size w w' := by
  obtain ⟨a, ca, rfl, ha⟩ := ha
  obtain ⟨b, cb, rfl, hb⟩ := hb
  have HA := Hid.mk' ha
  have HB := Hid.mk' hb
  clear ha hb
  go_enter Tryd.func24, Tryd.ntmps24
  go_wp2
  go_loopw [5] (fun i wr => ∃ k : Nat, k ≤ rs.length ∧ i = .int .i64 k ∧ Below w.heap.size w wr) (fun i _ => rs.length - (intOf i).toNat)
  case atStart => exact ⟨0, Nat.zero_le _, rfl, Below.refl _ _⟩
  case round =>
    obtain ⟨k, hk, rfl, hbel⟩ := hrel
    by_cases hlt : k < rs.length
    · obtain ⟨ba, oa, rfl, ca0⟩ := HA.out k hlt
      obtain ⟨bb, ob, rfl, cb0⟩ := HB.out k hlt
      have hca := (hbel.cell (p := ⟨ba, oa + k, none⟩) (lt_of_cell ca0)).trans ca0
      have hcb := (hbel.cell (p := ⟨bb, ob + k, none⟩) (lt_of_cell cb0)).trans cb0
      clear ca0 cb0
      generalize rs.getD k 0 = r at hca hcb
      go_wp2
      go_region
      go_wp2
      go_roundw
      case rel => exact ⟨k + 1, by omega, by go_num, hbel.drew⟩
      case measure => simp [intOf]; omega
    · go_wp2
      go_ret
      exact ⟨rfl, hbel⟩
end Go.Proofs.YteflghhpdikidaaDoor

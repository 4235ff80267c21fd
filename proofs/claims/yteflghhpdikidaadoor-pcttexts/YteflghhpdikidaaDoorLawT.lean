/-
  What is proved here: what the reference's Text (layer 2) answers; that PctTexts answers true at every text.
-/
import Derived.Test.YteflghhpdikidaaDoorText
namespace Go.Proofs.YteflghhpdikidaaDoor
open Go.RowKit

set_option maxHeartbeats 1000000 in
theorem refText_ok (s : ByteArray) (w : World) (hs : s.size ≤ 60) (l : List (Nat × UInt8)) (hu : Pct.un s.data.toList 0 = (l, 0, 0)) (rs : List Int) (hd : Utf.dec (l.map (·.2)) 0 = (rs, 0, 0)) :
    Calls Tryd.prog 23 #[.string s] w fun e w' => ∃ v, e = .returned (.tuple #[v, .int .i64 0, .int .i64 0]) ∧ Runes w' v rs ∧ Below w.heap.size w w' := by
  have hll : l.length ≤ s.size := by have := un_len s.data.toList 0; rw [hu] at this; exact this
  have HU := Hid.mk' (refUn_c s w (by omega) l 0 0 hu)
  have HD : Hid (∀ w1, _) := fun w1 => refDecode_ok (Pct.str l) w1 (by rw [str_size]; omega) rs hd
  clear hu hd hll
  generalize Pct.str l = t at *
  go_enter Tryd.func23, Tryd.ntmps23
  go_wp2_with fail
  refine HU.out.mono ?_
  rintro e w1 ⟨v, rfl, ⟨va, vc, rfl, -⟩, hb1⟩
  go_wp2_with fail
  refine (HD.out _).mono ?_
  rintro e w2 ⟨u, rfl, ho, hb2⟩
  have h1 := fun o => hb1.alloc hb1.size o
  have h2 := (h1 _).trans (hb2.mono (h1 _).size)
  have HO := Hid.mk' (Runes.own ho)
  clear ho
  go_wp2
  go_ret3
  exact ⟨_, rfl, HO.out, h2⟩

set_option maxHeartbeats 1000000 in
theorem refText_bad (s : ByteArray) (w : World) (hs : s.size ≤ 60) (l : List (Nat × UInt8)) (hu : Pct.un s.data.toList 0 = (l, 0, 0)) (k c : Nat) (hd : Utf.dec (l.map (·.2)) 0 = ([], k, c)) (hc : c = 1 ∨ c = 2) (hk : k < l.length) :
    Calls Tryd.prog 23 #[.string s] w fun e w' => e = .returned (.tuple #[.slice none 0 0, .int .i64 ((l.map fun x => (x.1 : Int)).getD k 0), .int .i64 c]) ∧ Below w.heap.size w w' := by
  have hll : l.length ≤ s.size := by have := un_len s.data.toList 0; rw [hu] at this; exact this
  have HU := Hid.mk' (refUn_c s w (by omega) l 0 0 hu)
  have HD : Hid (∀ w1, _) := fun w1 => refDecode_err (Pct.str l) w1 (by rw [str_size]; omega) k c hd (by omega)
  have hcz : ((c : Int) != 0) = true := by simp; omega
  have hkn : k < (l.map fun x => (x.1 : Int)).length := by rw [List.length_map]; exact hk
  have hnl : (l.map fun x => (x.1 : Int)).length ≤ 60 := by rw [List.length_map]; omega
  clear hu hd hll hk hc
  generalize Pct.str l = t at *
  generalize (l.map fun x => (x.1 : Int)) = ns at *
  go_enter Tryd.func23, Tryd.ntmps23
  go_wp2_with fail
  refine HU.out.mono ?_
  rintro e w1 ⟨v, rfl, ⟨va, vc, rfl, hn⟩, hb1⟩
  obtain ⟨ba, oa, rfl, ca⟩ := hn k hkn
  obtain ⟨r, hr⟩ : ∃ r, r = ns.getD k 0 := ⟨_, rfl⟩
  rw [← hr] at ca
  have HR := Hid.mk' hr
  clear hn hr
  go_wp2_with fail
  refine (HD.out _).mono ?_
  rintro e w2 ⟨rfl, hb2⟩
  have h1 := fun o => hb1.alloc hb1.size o
  have h2 := (h1 _).trans (hb2.mono (h1 _).size)
  have d1 := (hb2.cell (p := ⟨w1.heap.size, 1, none⟩) (by simp)).trans (World.cell?_alloc_new ..)
  simp at d1
  have ca2 := (hb2.cell (p := ⟨ba, oa + k, none⟩) (by have := lt_of_cell ca; simp; omega)).trans ((World.cell?_alloc_lt _ _ ⟨ba, oa + k, none⟩ (lt_of_cell ca)).trans ca)
  clear ca hb2 h1
  go_wp2
  go_region
  go_wp2
  go_ret3
  rw [← HR.out]
  exact ⟨rfl, h2.drew⟩

set_option maxHeartbeats 1000000 in
theorem refText_err (s : ByteArray) (w : World) (hs : s.size ≤ 60) (k c : Nat) (hu : Pct.un s.data.toList 0 = ([], k, c)) (hc : c = 1 ∨ c = 2) :
    Calls Tryd.prog 23 #[.string s] w fun e w' => e = .returned (.tuple #[.slice none 0 0, .int .i64 k, .int .i64 c]) ∧ Below w.heap.size w w' := by
  have HU := Hid.mk' (refUn_e s w (by omega) k c hu)
  have hcz : ((c : Int) != 0) = true := by simp; omega
  clear hu hc
  go_enter Tryd.func23, Tryd.ntmps23
  go_wp2_with fail
  refine HU.out.mono ?_
  rintro e w1 ⟨va, vc, rfl, hb1⟩
  have h1 := Hid.mk' (fun o => hb1.alloc hb1.size o)
  clear hb1
  go_wp2
  go_region
  go_wp2
  go_ret3
  exact ⟨rfl, (h1.out _).drew⟩

theorem dec_short {l : List UInt8} {rs : List Int} {a : Nat} (h : Utf.dec l a = (rs, 0, 0)) : rs.length ≤ l.length := by
  obtain ⟨h1, h2⟩ := Utf.dec_back l.length l a rs (Nat.le_refl _) h
  have h3 : ∀ qs : List Int, (∀ r ∈ qs, 0 < Utf.width r) → qs.length ≤ (qs.flatMap Utf.form).length := by
    intro qs
    induction qs with
    | nil => intro _; simp
    | cons q qs ih =>
      intro h
      have := ih fun r hr => h r (List.mem_cons_of_mem _ hr)
      have := Utf.form_len (h q (List.mem_cons_self ..))
      have := h q (List.mem_cons_self ..)
      simp only [List.flatMap_cons, List.length_append, List.length_cons]
      omega
  have := h3 rs h1
  rw [← h2, List.length_map]
  exact this
theorem runes_nil (w : World) : Runes w (.slice none 0 0) [] := ⟨none, 0, rfl, fun j hj => by simp at hj⟩

set_option maxRecDepth 20000 in
set_option maxHeartbeats 1000000 in
theorem texts_any (w : World) (p : Nat → Addr) (hg : Gl p w) (s : ByteArray) (hs : s.size ≤ maxLen) :
    Calls Tryd.prog 6 #[.string s] w fun e w' => e = .returned (.bool true) ∧ Below w.heap.size w w' := by
  have HW := Hid.mk' (awake2_any w p hg)
  unfold maxLen at hs
  by_cases hl : 60 < s.size
  · clear hg
    go_enter Tryd.func6, Tryd.ntmps6
    go_wp2_with (go_at_call 9; refine HW.out.mono ?_; rintro e w1 ⟨rfl, hb1⟩)
    go_ret
    exact ⟨rfl, hb1⟩
  · have fin : (∃ rs : List Int, rs.length ≤ 60 ∧ (∀ w1, Below w.heap.size w w1 → Calls Tryd.prog 22 #[.string s] w1 fun e w' => ∃ v, e = .returned (.tuple #[v, .nilIface]) ∧ Runes w' v rs ∧ Below w1.heap.size w1 w') ∧ (∀ w1, Calls Tryd.prog 23 #[.string s] w1 fun e w' => ∃ v, e = .returned (.tuple #[v, .int .i64 0, .int .i64 0]) ∧ Runes w' v rs ∧ Below w1.heap.size w1 w')) ∨
        (∃ (a : Int) (c : Nat), (c = 1 ∨ c = 2) ∧ (∀ w1, Below w.heap.size w w1 → Calls Tryd.prog 22 #[.string s] w1 fun e w' => ∃ v, e = .returned (.tuple #[.slice none 0 0, v]) ∧ Flt w' v w1.heap.size a (p c) ∧ Below w1.heap.size w1 w') ∧ (∀ w1, Calls Tryd.prog 23 #[.string s] w1 fun e w' => e = .returned (.tuple #[.slice none 0 0, .int .i64 a, .int .i64 c]) ∧ Below w1.heap.size w1 w')) := by
      rcases un_cases s.data.toList with ⟨m, hu⟩ | ⟨k, c, hu, hc⟩
      · have hml : m.length ≤ s.size := by have := un_len s.data.toList 0; rw [hu] at this; exact this
        rcases dec_cases (m.map (·.2)) with ⟨rs, hd⟩ | ⟨k, c, hd, hc, hk⟩
        · refine .inl ⟨rs, ?_, fun w1 hb => text_ok s w1 p (hg.below hb) (by omega) m hu rs hd, fun w1 => refText_ok s w1 (by omega) m hu rs hd⟩
          have := dec_short hd
          rw [List.length_map] at this
          omega
        · rw [List.length_map] at hk
          exact .inr ⟨_, c, hc, fun w1 hb => text_bad s w1 p (hg.below hb) (by omega) m hu k c hd (by omega) hk, fun w1 => refText_bad s w1 (by omega) m hu k c hd hc hk⟩
      · exact .inr ⟨k, c, hc, fun w1 hb => text_err s w1 p (hg.below hb) (by omega) k c hu (by omega), fun w1 => refText_err s w1 (by omega) k c hu hc⟩
    rcases fin with ⟨rs, hrl, hT, hR⟩ | ⟨a, c, hc, hT, hR⟩
    · have HT := Hid.mk' hT
      have HR := Hid.mk' hR
      clear hg hT hR
      go_enter Tryd.func6, Tryd.ntmps6
      go_wp2_with fail
      refine HW.out.mono ?_
      rintro e w1 ⟨rfl, hb1⟩
      go_wp2_with fail
      refine (HT.out w1 hb1).mono ?_
      rintro e w2 ⟨v, rfl, hv, hb2⟩
      go_wp2_with fail
      refine (HR.out w2).mono ?_
      rintro e w3 ⟨u, rfl, hu, hb3⟩
      have h1 := hb1.trans (hb2.mono hb1.size)
      have h2 := h1.trans (hb3.mono h1.size)
      have HS := Hid.mk' (same_any v u rs w3 (by omega) (hv.below hb3) hu)
      clear hv hu hb1 hb2 hb3 h1
      go_wp2_with (first | (go_at_call 13; refine (lawIs_none _ _).mono ?_; rintro e w4 ⟨rfl, rfl⟩) | (go_at_call 24; refine HS.out.mono ?_; rintro e w5 ⟨rfl, hb5⟩))
      go_ret
      exact ⟨rfl, h2.trans (hb5.mono h2.size)⟩
    · have HT := Hid.mk' hT
      have HR := Hid.mk' hR
      have HI : Hid (∀ w1 v B, Below w.heap.size w w1 → Flt w1 v B a (p c) → _) := fun w1 v B hb hf => lawIs_fault v B a c w1 p (hg.below hb) (by omega) hf
      clear hg hT hR
      go_enter Tryd.func6, Tryd.ntmps6
      go_wp2_with fail
      refine HW.out.mono ?_
      rintro e w1 ⟨rfl, hb1⟩
      go_wp2_with fail
      refine (HT.out w1 hb1).mono ?_
      rintro e w2 ⟨v, rfl, hf, hb2⟩
      go_wp2_with fail
      refine (HR.out w2).mono ?_
      rintro e w3 ⟨rfl, hb3⟩
      have h1 := hb1.trans (hb2.mono hb1.size)
      have h2 := h1.trans (hb3.mono h1.size)
      have HI2 := Hid.mk' (HI.out w3 _ _ h2 (hf.below hb3))
      clear hf hb1 hb2 hb3 h1
      go_wp2_with fail
      refine HI2.out.mono ?_
      rintro e w4 ⟨rfl, hb4⟩
      have h3 := h2.trans (hb4.mono h2.size)
      have HS := Hid.mk' (same_any _ _ [] w4 (by simp) (runes_nil w4) (runes_nil w4))
      go_wp2_with (go_at_call 24; refine HS.out.mono ?_; rintro e w5 ⟨rfl, hb5⟩)
      go_ret
      exact ⟨rfl, h3.trans (hb5.mono h3.size)⟩
end Go.Proofs.YteflghhpdikidaaDoor

/-
  What is proved: UtfBack answers true, whatever the text: what was decoded is encoded to the same text. For every text; nothing is asked but what the row lists of package-level variables (the card ties it to the program's text).
-/
import Derived.Test.YtbpjenckkllbaaaDoorFrame
import Derived.Test.YtbpjenckkllbaaaDoorAwake
import Derived.Test.YtbpjenckkllbaaaDoorForms
namespace Go.Proofs.YtbpjenckkllbaaaDoor
open Go.ChangeShapes Go.WideShapes Go.ChangeAt Go.RowKit
open Go.ChangeMaps (open_string shut_string)

theorem str_eq {s : ByteArray} {bs : List Int} (h : bs.map Utf.u8 = s.data.toList) : strOfNums bs = s := by
  obtain ⟨⟨l⟩⟩ := s
  have e : bs.map Utf.u8 = l := h
  show (⟨(bs.map Utf.u8).toArray⟩ : ByteArray) = _
  rw [e]

theorem encode_ok (v : Value) (rs : List Int) (w : World) (p : Nat → Addr) (hl : rs.length ≤ 268435456) (hg : Gl p w) (hv : Runes w v rs) (hr : ∀ r ∈ rs, 0 < Utf.width r) :
    Calls Tryd.prog 17 #[v] w fun e w' => e = .returned (.tuple #[.string (strOfNums (rs.flatMap Utf.form)), .nilIface]) ∧ Below w.heap.size w w' := by
  refine (encode_any v rs w p hl hg hv).mono ?_
  rintro e w' ⟨hb, h | h⟩
  · exact ⟨h.2, hb⟩
  · obtain ⟨k, hk, _, hn, _⟩ := h
    exact absurd (hr _ (by rw [List.getD, List.getElem?_eq_getElem hk]; exact List.getElem_mem hk)) hn

theorem dec_length {l : List UInt8} {rs : List Int} {a : Nat} (h : Utf.dec l a = (rs, 0, 0)) : rs.length ≤ l.length := by
  obtain ⟨h1, h2⟩ := Utf.dec_back l.length l a rs (Nat.le_refl _) h
  have h3 : ∀ qs : List Int, (∀ r ∈ qs, 0 < Utf.width r) → qs.length ≤ (qs.flatMap Utf.form).length := by
    intro qs
    induction qs with
    | nil => intro _; simp
    | cons q qs ih =>
      intro h
      have := ih fun r hr => h r (List.mem_cons_of_mem _ hr)
      have := Utf.form_len (h q (List.mem_cons_self ..))
      have := h q (List.mem_cons_self ..)
      simp only [List.flatMap_cons, List.length_append, List.length_cons]
      omega
  have := h3 rs h1
  rw [← h2, List.length_map]
  exact this

set_option maxHeartbeats 1000000 in
theorem back_any (s : ByteArray) (w : World) (p : Nat → Addr) (hs : s.size ≤ maxLen) (hg : Gl p w) :
    Calls Tryd.prog 6 #[.string s] w fun e w' => e = .returned (.bool true) ∧ Below w.heap.size w w' := by
  have HW := Hid.mk' (awake_any w p hg)
  unfold maxLen at hs
  by_cases hl : 60 < s.size
  · clear hg
    go_enter Tryd.func6, Tryd.ntmps6
    go_wp2_with (go_at_call 9; refine HW.out.mono ?_; rintro e w1 ⟨rfl, hb1⟩)
    go_ret
    exact ⟨rfl, hb1⟩
  · have hs2 : s.size ≤ 2147483648 := by omega
    have hsl : s.data.toList.length = s.size := rfl
    by_cases hc : (Utf.dec s.data.toList 0).2.2 = 0
    · obtain ⟨rs, hd⟩ : ∃ rs, Utf.dec s.data.toList 0 = (rs, 0, 0) := ⟨_, Prod.ext rfl (Prod.ext (Utf.dec_zero 0 hc) hc)⟩
      obtain ⟨hr, hf⟩ := Utf.dec_back _ _ _ _ (Nat.le_refl _) hd
      have hlen := dec_length hd
      have HD : Hid (∀ w1, Below w.heap.size w w1 → _) := fun w1 hb => decode_ok s w1 p hs2 (hg.below hb) rs hd
      have HE : Hid (∀ w2 v, Below w.heap.size w w2 → Runes w2 v rs → Calls Tryd.prog 17 #[v] w2 fun e w' => e = .returned (.tuple #[.string s, .nilIface]) ∧ Below w2.heap.size w2 w') := fun w2 v hb hv => by
        have := encode_ok v rs w2 p (by omega) (hg.below hb) hv hr
        rw [str_eq hf] at this
        exact this
      clear hg hd hf hr hc hlen hsl
      go_enter Tryd.func6, Tryd.ntmps6
      go_wp2_with fail
      refine HW.out.mono ?_
      rintro e w1 ⟨rfl, hb1⟩
      go_wp2_with fail
      refine (HD.out w1 hb1).mono ?_
      rintro e w2 ⟨v, rfl, ho, hb2⟩
      have hb3 := hb1.trans (hb2.mono hb1.size)
      have HE2 := Hid.mk' (HE.out w2 v hb3 (Runes.own ho))
      clear ho
      go_wp2_with (go_at_call 17; refine HE2.out.mono ?_; rintro e w3 ⟨rfl, hb4⟩)
      go_ret
      exact ⟨rfl, hb3.trans (hb4.mono hb3.size)⟩
    · have hcz := Utf.dec_code 0 hc
      have HD : Hid (∀ w1, Below w.heap.size w w1 → _) := fun w1 hb => decode_err s w1 p hs2 (hg.below hb) _ _ (Prod.ext hcz rfl) hc
      have hv0 : ((Utf.dec s.data.toList 0).2.2 == 0) = false := beq_eq_false_iff_ne.2 hc
      have HV : Hid (∀ w2, Below w.heap.size w w2 → Calls Tryd.prog 14 #[.string s] w2 fun e w' => e = .returned (.bool false) ∧ Below w2.heap.size w2 w') := fun w2 hb => by
        have := valid_any s w2 p hs2 (hg.below hb)
        rw [hv0] at this
        exact this
      clear hg hcz hc hv0 hsl
      go_enter Tryd.func6, Tryd.ntmps6
      go_wp2_with fail
      refine HW.out.mono ?_
      rintro e w1 ⟨rfl, hb1⟩
      go_wp2_with fail
      refine (HD.out w1 hb1).mono ?_
      rintro e w2 ⟨b, rfl, hf, hb2⟩
      have hb3 := hb1.trans (hb2.mono hb1.size)
      have HV2 := Hid.mk' (HV.out w2 hb3)
      clear hf
      go_wp2_with (go_at_call 14; refine HV2.out.mono ?_; rintro e w3 ⟨rfl, hb4⟩)
      go_ret
      exact ⟨rfl, hb3.trans (hb4.mono hb3.size)⟩

set_option maxRecDepth 100000 in
theorem back_lifted (os : Os) (started : os.Started) (H : Type) (enc : TypeId × Value → H) :
    ReturnsInHanded {} Tryd.checked os 6 .any (fun w args => (Rows.utfBackSpec.pre enc Tryd.prog Tryd.f6 [] false w args ∧ laidMetH Tryd.prog Rows.utfBackRow.laid w) ∧ sizedMet enc Tryd.prog Tryd.f6 (OpenSpec.ofChange Rows.utfBackSpec) false w args)
      (Rows.utfBackSpec.post enc Tryd.prog Tryd.f6 false true false false) := by
  refine returnsInHanded_of_change_and (C := Tryd.checked) (X := fun w _ => laidMetH Tryd.prog Rows.utfBackRow.laid w) (fun _ _ _ hh h => h.of_heap hh) Tryd.own started (by kernel_rfl) Tryd.func6
    (ChangeSpec.witness_shaped (enc := enc) (C := Tryd.checked) (os := os) (X := fun w _ => laidMetH Tryd.prog Rows.utfBackRow.laid w) false (World.doorLaid Tryd.prog 400 os) #[.string ByteArray.empty] 8 rfl (World.shaped_of_RefB (by kernel_rfl) (by kernel_rfl)) (by kernel_rfl) (by kernel_rfl) (by kernel_rfl) (door_met os _)) ?_
  intro W base args ds gs before hval0 hW _ _ hL _
  have hval : ∀ (j : Nat) t v, Tryd.f6.params[j]? = some t → args[j]? = some v → Value.okWide Tryd.prog W .any base t v := hval0
  have hW' := hW
  obtain ⟨p, q, hA0, hV, rfl, hfz, hnd⟩ := hW
  have hA : DataW.TrodAll enc Tryd.prog W 0 (fun _ => true) true Tryd.f6.params.toList args.toList ds p := hA0
  rw [Tryd.params6] at hA hval
  obtain ⟨v0, d0, rfl, rfl, h0⟩ := trodAll_one hA
  obtain ⟨rfl, rfl⟩ := trodVars_none hV
  obtain ⟨s, rfl, rfl, rfl, hs⟩ := open_string Tryd.underlying9 (hval 0 9 v0 rfl rfl) h0
  obtain ⟨pa, hg⟩ := gl_of_laid hL
  clear hA0 hval0
  refine (back_any s W pa hs hg).mono fun e W' ⟨he, hb⟩ => ?_
  subst he
  refine ⟨_, rfl, _, _, _, [], [], [], hW', ?_, ?_, ?_, hb.frame _, fun h => by cases h⟩
  · exact trodAll_mk1 (shut_bool Tryd.underlying4 true)
  · exact trodAll_mk1 (shut_string Tryd.underlying9 hs)
  · rfl

theorem back_said : Rows.UtfBackSaid :=
  OpenClaim.holds_of_wide 6 Tryd.f6 rfl rfl rfl rfl rfl rfl rfl ⟨rfl, rfl, rfl, rfl, rfl⟩ rfl rfl rfl rfl rfl (by kernel_rfl) Tryd.func6 (by kernel_rfl)
    (of_decide_eq_true (by kernel_rfl)) (by unfold Func.isWrapper; rw [if_neg (of_decide_eq_false (by kernel_rfl))]; exact ⟨rfl, rfl⟩)
    (fun os started H enc _ => back_lifted os started H enc)

theorem back_plain (f : FuncId) (fn : Func) (hf : Tryd.pinned.checked.prog.funcNamed "eponym/eponymlaw01.UtfBack" = some f) (hfn : Tryd.pinned.checked.prog.funcs[f]? = some fn) :
    true = Tryd.pinned.checked.prog.looks [] ∧ ∀ (j : Nat) t, fn.params[j]? = some t → Tryd.pinned.checked.prog.wantsStandIn t = false := by
  obtain rfl : f = 6 := Option.some.inj ((show Tryd.prog.funcNamed "eponym/eponymlaw01.UtfBack" = some 6 by kernel_rfl).symm.trans hf) |>.symm
  obtain rfl : fn = Tryd.f6 := (Option.some.inj (Tryd.func6.symm.trans hfn)).symm
  refine ⟨by kernel_rfl, fun j t ht => ?_⟩
  rw [Tryd.params6] at ht
  obtain rfl : t = 9 := by simpa using Array.mem_of_getElem? ht
  exact (show Tryd.prog.wantsStandIn 9 = false by kernel_rfl)

/-- THE CARD -/
theorem utfBack_holds : Rows.UtfBackCardSaid :=
  Claim7.holds_tied_plain_at .later [] _ _ _ _ back_said (fun _ h => by cases h) (by kernel_rfl) (fun _ h => by cases h) utfBack_row_tie rfl ⟨rfl, rfl⟩ (by kernel_rfl) rfl back_plain (by kernel_rfl)
end Go.Proofs.YtbpjenckkllbaaaDoor

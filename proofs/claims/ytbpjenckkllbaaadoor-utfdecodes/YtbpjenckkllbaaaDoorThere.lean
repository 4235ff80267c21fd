/-
  What is proved: UtfThere answers true, whatever the runes: what was encoded is decoded to the same runes. For every list of runes; nothing is asked but what the row lists of package-level variables (the card ties it to the program's text).
-/
import Derived.Test.YtbpjenckkllbaaaDoorLift
import Derived.Test.YtbpjenckkllbaaaDoorAwake
import Derived.Test.YtbpjenckkllbaaaDoorBack
import Derived.Test.YtbpjenckkllbaaaDoorThere0
namespace Go.Proofs.YtbpjenckkllbaaaDoor
open Go.ChangeShapes Go.WideShapes Go.ChangeAt Go.RowKit
open Go.ChangeMaps (open_string shut_string)

theorem encode_err (v : Value) (rs : List Int) (w : World) (p : Nat → Addr) (hl : rs.length ≤ 268435456) (hg : Gl p w) (hv : Runes w v rs) (hr : ¬ ∀ r ∈ rs, 0 < Utf.width r) :
    Calls Tryd.prog 17 #[v] w fun e w' => ∃ b k : Nat, e = .returned (.tuple #[.string ⟨#[]⟩, .iface 45 (.pointer (some ⟨b, 0, none⟩))]) ∧ Flt w' (.iface 45 (.pointer (some ⟨b, 0, none⟩))) w.heap.size k (p 4) ∧ k < rs.length ∧ (∀ r ∈ rs.take k, 0 < Utf.width r) ∧ ¬ 0 < Utf.width (rs.getD k 0) ∧ Below w.heap.size w w' := by
  refine (encode_any v rs w p hl hg hv).mono ?_
  rintro e w' ⟨hb, h | h⟩
  · exact absurd h.1 hr
  · obtain ⟨k, hk, h1, hn, v, rfl, b, hb1, rfl, h3⟩ := h
    exact ⟨b, k, rfl, ⟨b, hb1, rfl, h3⟩, hk, h1, hn, hb⟩

theorem u8_size (bs : List Int) : (strOfNums bs).data.toList = bs.map Utf.u8 := strOfNums_data bs

set_option maxHeartbeats 1000000 in
theorem there_any (w : World) (p : Nat → Addr) (hg : Gl p w) (v : Value) (rs : List Int) (hv : Runes w v rs) (hl0 : rs.length ≤ maxLen) (_wf : ∀ r ∈ rs, (Lit.int .i32 r).wf = true) :
    Calls Tryd.prog 7 #[v] w fun e w' => e = .returned (.bool true) ∧ Below w.heap.size w w' := by
  have HW := Hid.mk' (awake_any w p hg)
  have HR := Hid.mk' hv
  obtain ⟨a, cap, rfl, -⟩ := hv
  unfold maxLen at hl0
  by_cases hl : 30 < rs.length
  · clear hg
    go_enter Tryd.func7, Tryd.ntmps7
    go_wp2_with (go_at_call 9; refine HW.out.mono ?_; rintro e w1 ⟨rfl, hb1⟩)
    go_ret
    exact ⟨rfl, hb1⟩
  · by_cases hr : ∀ r ∈ rs, 0 < Utf.width r
    · have hfl := forms_length rs
      have hsz : (strOfNums (rs.flatMap Utf.form)).size ≤ 2147483648 := by rw [strOfNums_size]; omega
      have HE : Hid (∀ w1, Below w.heap.size w w1 → _) := fun w1 hb => encode_ok (.slice a rs.length cap) rs w1 p (by omega) (hg.below hb) (HR.out.below hb) hr
      have HD : Hid (∀ w2, Below w.heap.size w w2 → _) := fun w2 hb => decode_ok (strOfNums (rs.flatMap Utf.form)) w2 p hsz (hg.below hb) rs (by rw [u8_size]; exact Utf.dec_there rs 0 hr)
      have HS : Hid (∀ w3 v3, Below w.heap.size w w3 → Runes w3 v3 rs → _) := fun w3 v3 hb h3 => same_any v3 (.slice a rs.length cap) rs w3 (by omega) h3 (HR.out.below hb)
      clear hg hr hfl hsz
      generalize strOfNums (rs.flatMap Utf.form) = s at HE HD
      go_enter Tryd.func7, Tryd.ntmps7
      go_wp2_with fail
      refine HW.out.mono ?_
      rintro e w1 ⟨rfl, hb1⟩
      go_wp2_with fail
      refine (HE.out w1 hb1).mono ?_
      rintro e w2 ⟨rfl, hb2⟩
      have hb3 := hb1.trans (hb2.mono hb1.size)
      go_wp2_with fail
      refine (HD.out w2 hb3).mono ?_
      rintro e w3 ⟨v3, rfl, ho, hb4⟩
      have hb5 := hb3.trans (hb4.mono hb3.size)
      have HS2 := Hid.mk' (HS.out w3 v3 hb5 (Runes.own ho))
      clear ho
      go_wp2_with (go_at_call 13; refine HS2.out.mono ?_; rintro e w4 ⟨rfl, hb6⟩)
      go_ret
      exact ⟨rfl, hb5.trans (hb6.mono hb5.size)⟩
    · have HE : Hid (∀ w1, Below w.heap.size w w1 → _) := fun w1 hb => encode_err (.slice a rs.length cap) rs w1 p (by omega) (hg.below hb) (HR.out.below hb) hr
      clear hg hr
      go_enter Tryd.func7, Tryd.ntmps7
      go_wp2_with fail
      refine HW.out.mono ?_
      rintro e w1 ⟨rfl, hb1⟩
      go_wp2_with fail
      refine (HE.out w1 hb1).mono ?_
      rintro e w2 ⟨b, k, rfl, -, -, -, -, hb2⟩
      have hb3 := hb1.trans (hb2.mono hb1.size)
      go_wp2
      go_ret
      exact ⟨rfl, hb3⟩

set_option maxRecDepth 100000 in
theorem there_lifted (os : Os) (started : os.Started) (H : Type) (enc : TypeId × Value → H) :
    ReturnsInHanded {} Tryd.checked os 7 .any (fun w args => (Rows.utfThereSpec.pre enc Tryd.prog Tryd.f7 [] false w args ∧ laidMetH Tryd.prog Rows.utfBackRow.laid w) ∧ sizedMet enc Tryd.prog Tryd.f7 (OpenSpec.ofChange Rows.utfThereSpec) false w args)
      (Rows.utfThereSpec.post enc Tryd.prog Tryd.f7 false true false false) := by
  refine returnsInHanded_of_change_and (C := Tryd.checked) (X := fun w _ => laidMetH Tryd.prog Rows.utfBackRow.laid w) (fun _ _ _ hh h => h.of_heap hh) Tryd.own started (by kernel_rfl) Tryd.func7
    (ChangeSpec.witness_shaped (enc := enc) (C := Tryd.checked) (os := os) (X := fun w _ => laidMetH Tryd.prog Rows.utfBackRow.laid w) false (World.doorLaid Tryd.prog 400 os) #[.slice none 0 0] 8 rfl (World.shaped_of_RefB (by kernel_rfl) (by kernel_rfl)) (by kernel_rfl) (by kernel_rfl) (by kernel_rfl) (door_met os _)) ?_
  intro W base args ds gs before hval0 hW _ _ hL _
  have hval : ∀ (j : Nat) t v, Tryd.f7.params[j]? = some t → args[j]? = some v → Value.okWide Tryd.prog W .any base t v := hval0
  have hW' := hW
  obtain ⟨p, q, hA0, hV, rfl, hfz, hnd⟩ := hW
  have hA : DataW.TrodAll enc Tryd.prog W 0 (fun _ => true) true Tryd.f7.params.toList args.toList ds p := hA0
  rw [Tryd.params7] at hA hval
  obtain ⟨v0, d0, rfl, rfl, h0⟩ := trodAll_one hA
  obtain ⟨rfl, rfl⟩ := trodVars_none hV
  clear hA0 hval0
  simp only [List.append_nil] at hW'

  have lt0 : ∀ x ∈ p, x.block < W.heap.size := fun x hx => by simpa using hW'.lt x hx
  have back0 : ∀ W', Below W.heap.size W W' → DataW.Trod enc Tryd.prog W' 0 (fun b => decide (b < W.heap.size)) true 23 v0 d0 p := fun W' hn => Below.trod Tryd.laidOut (by kernel_rfl) (of_decide_eq_true (by kernel_rfl)) h0 hn lt0
  obtain ⟨rs0, hr0, hl0, wf0⟩ := open_runes (hval 0 23 v0 rfl rfl) h0
  obtain ⟨pa, hg⟩ := gl_of_laid hL
  refine (there_any W pa hg v0 rs0 hr0 hl0 wf0).mono fun e W' ⟨he, hb⟩ => ?_
  subst he
  refine ⟨_, rfl, _, _, _, [], p, [], hW', ?_, ?_, ?_, hb.frame _, fun h => by cases h⟩
  · exact trodAll_mk1 (shut_bool Tryd.underlying4 true)
  · exact trodAll_mk1 (back0 _ hb)
  · rfl

theorem there_said : Rows.UtfThereSaid :=
  OpenClaim.holds_of_wide 7 Tryd.f7 rfl rfl rfl rfl rfl rfl rfl ⟨rfl, rfl, rfl, rfl, rfl⟩ rfl rfl rfl rfl rfl (by kernel_rfl) Tryd.func7 (by kernel_rfl)
    (of_decide_eq_true (by kernel_rfl)) (by unfold Func.isWrapper; rw [if_neg (of_decide_eq_false (by kernel_rfl))]; exact ⟨rfl, rfl⟩)
    (fun os started H enc _ => there_lifted os started H enc)

theorem there_plain (f : FuncId) (fn : Func) (hf : Tryd.pinned.checked.prog.funcNamed "eponym/eponymlaw01.UtfThere" = some f) (hfn : Tryd.pinned.checked.prog.funcs[f]? = some fn) :
    true = Tryd.pinned.checked.prog.looks [] ∧ ∀ (j : Nat) t, fn.params[j]? = some t → Tryd.pinned.checked.prog.wantsStandIn t = false := by
  obtain rfl : f = 7 := Option.some.inj ((show Tryd.prog.funcNamed "eponym/eponymlaw01.UtfThere" = some 7 by kernel_rfl).symm.trans hf) |>.symm
  obtain rfl : fn = Tryd.f7 := (Option.some.inj (Tryd.func7.symm.trans hfn)).symm
  refine ⟨by kernel_rfl, fun j t ht => ?_⟩
  rw [Tryd.params7] at ht
  obtain rfl : t = 23 := by simpa using Array.mem_of_getElem? ht
  exact (show Tryd.prog.wantsStandIn 23 = false by kernel_rfl)

/-- THE CARD -/
theorem utfThere_holds : Rows.UtfThereCardSaid :=
  Claim7.holds_tied_plain_at .later [] _ _ _ _ there_said (fun _ h => by cases h) (by kernel_rfl) (fun _ h => by cases h) utfThere_row_tie rfl ⟨rfl, rfl⟩ (by kernel_rfl) rfl there_plain (by kernel_rfl)
end Go.Proofs.YtbpjenckkllbaaaDoor

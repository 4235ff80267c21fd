/-
  What is proved here: what the law PunyDecodes answers.
-/
import Derived.Test.YtockmkcoehepiaaDoorV2
namespace Go.Proofs.YtockmkcoehepiaaDoor
open Go.RowKit

theorem rd_code (bias : Int) : ∀ (bs : List Int) (a : Nat) (k sum u : Int) (x c : Nat), rdM bias bs a k sum u = .bad x c → Code c := by
  intro bs
  induction bs with
  | nil =>
    intro a k sum u x c h
    rw [rdM] at h
    cases h
    unfold Code; omega
  | cons b bs ih =>
    intro a k sum u x c h
    rw [rdM] at h
    split at h
    · cases h; unfold Code; omega
    · split at h
      · cases h; unfold Code; omega
      · split at h
        · cases h
        · exact ih _ _ _ _ _ _ h
theorem dec_code : ∀ (f : Nat) (s : Dst) (bs : List Int) (a x c : Nat), decR f s bs a = .bad x c → Code c := by
  intro f
  induction f with
  | zero =>
    intro s bs a x c h
    cases bs with
    | nil => rw [decR_nil] at h; cases h
    | cons b bs => rw [decR] at h <;> first | cases h | (intro h; cases h)
  | succ f ih =>
    intro s bs a x c h
    cases bs with
    | nil => rw [decR_nil] at h; cases h
    | cons b bs =>
      rw [decR_cons] at h
      cases hr : rdM s.bias (b :: bs) a 0 0 1 with
      | bad y d =>
        rw [hr] at h
        have e : DecR.bad y d = DecR.bad x c := h
        cases e
        exact rd_code _ _ _ _ _ _ _ _ hr
      | ok d rest a' =>
        rw [hr, contM_ok] at h
        split at h
        · exact ih _ _ _ _ _ h
        · cases h; unfold Code; omega
theorem dec_len : ∀ (f : Nat) (s : Dst) (bs : List Int) (a : Nat) (out : List Int), decR f s bs a = .ok out → out.length ≤ s.out.length + f := by
  intro f
  induction f with
  | zero =>
    intro s bs a out h
    cases bs with
    | nil => rw [decR_nil] at h; cases h; omega
    | cons b bs =>
      have e : decR 0 s (b :: bs) a = .ok s.out := by rw [decR]; intro h; cases h
      rw [e] at h; cases h; omega
  | succ f ih =>
    intro s bs a out h
    cases bs with
    | nil => rw [decR_nil] at h; cases h; omega
    | cons b bs =>
      rw [decR_cons] at h
      cases hr : rdM s.bias (b :: bs) a 0 0 1 with
      | bad y d =>
        rw [hr] at h
        have e : DecR.bad y d = DecR.ok out := h
        cases e
      | ok d rest a' =>
        rw [hr, contM_ok] at h
        split at h
        · have := ih _ _ _ _ h
          have e : (goD s d).out.length = s.out.length + 1 := ins_len _ _ _
          omega
        · cases h
theorem dec_both (w : World) (p : Nat → Addr) (hg : Gl p w) (s : ByteArray) (hs : s.size ≤ 130) : ∃ R : DecR, (∀ a c, R = .bad a c → Code c) ∧ (∀ out, R = .ok out → out.length ≤ 268435456) ∧ (∀ W, Below w.heap.size w W → Calls Tryd.prog 27 #[.string s] W fun e w' => DecIs W w' p e R) ∧ (∀ W, Below w.heap.size w W → Calls Tryd.prog 28 #[.string s] W fun e w' => RefIs W w' e R) := by
  by_cases h1 : 120 < s.size
  · exact ⟨.bad 0 3, fun a c h => by cases h; unfold Code; omega, fun out h => (by cases h), fun W hW => decode_long s W p (hg.below hW) h1 (by omega), fun W hW => refDecode_long s W h1 (by omega)⟩
  · rcases high_spec s s.size 0 (by omega) with ⟨e, -⟩ | ⟨k, e, -⟩
    · refine ⟨decM (bytesM s) (fromOf s), fun a c h => dec_code _ _ _ _ _ _ h, fun out h => ?_, fun W hW => decode_run s W p (hg.below hW) (by omega) e, fun W hW => refDecode_run s W (by omega) e⟩
      have h2 := dec_len _ _ _ _ _ h
      have h3 : ((bytesM s).take (fromOf s - 1)).length ≤ (bytesM s).length := by rw [List.length_take]; omega
      have h4 := bytes_len s
      have h5 : out.length ≤ ((bytesM s).take (fromOf s - 1)).length + (bytesM s).length := h2
      omega
    · exact ⟨.bad k 1, fun a c h => by cases h; unfold Code; omega, fun out h => (by cases h), fun W hW => decode_high' s W p (hg.below hW) (by omega) k e, fun W hW => refDecode_high s W (by omega) k e⟩
set_option maxRecDepth 20000 in
set_option maxHeartbeats 1000000 in
theorem decodes_any (w : World) (p : Nat → Addr) (hg : Gl p w ∧ Et w) (s : ByteArray) (hs : s.size ≤ maxLen) :
    Calls Tryd.prog 8 #[.string s] w fun e w' => e = .returned (.bool true) ∧ Below w.heap.size w w' := by
  unfold maxLen at hs
  have HA := Hid.mk' (awake6_any w p hg.1 hg.2)
  by_cases h130 : s.size ≤ 130
  · have hd : decide (130 < s.size) = false := decide_eq_false (by omega)
    obtain ⟨R, hc, hlen, hE, hF⟩ := dec_both w p hg.1 s h130
    cases R with
    | bad at_ c =>
      have hc := hc at_ c rfl
      have HE := Hid.mk' hE
      have HF := Hid.mk' hF
      simp only [DecIs, RefIs] at HE HF
      have HI : Hid (∀ W v B, Below w.heap.size w W → Flt W v B at_ (p c) → _) := fun W v B hb hf => lawIs_fault v B at_ c W p (hg.1.below hb) (hg.2.below hb) hc hf
      have HS : Hid (∀ W, _) := fun W => same_any (.slice none 0 0) (.slice none 0 0) [] W (by simp) ⟨none, 0, rfl, fun j hj => by simp at hj⟩ ⟨none, 0, rfl, fun j hj => by simp at hj⟩
      clear hg hE hF hc hlen
      go_enter Tryd.func8, Tryd.ntmps8
      go_wp2_with fail
      refine HA.out.mono ?_
      rintro e w1 ⟨rfl, hb1⟩
      go_wp2_with fail
      refine (HE.out w1 hb1).mono ?_
      rintro e w2 ⟨fv, rfl, hf, hb2⟩
      have hb12 := hb1.trans (hb2.mono hb1.size)
      have HFL : Hid (∀ W, Below w2.heap.size w2 W → Flt W fv w1.heap.size at_ (p c)) := fun W hW => by
        obtain ⟨b, q1, q2, q3, q4⟩ := hf
        exact ⟨b, q1, q2, (hW.cell (p := ⟨b, 0, none⟩) (lt_of_cell q3)).trans q3, (hW.cell (p := ⟨b, 1, none⟩) (lt_of_cell q4)).trans q4⟩
      obtain ⟨fb, q1, rfl, q3, q4⟩ := hf
      clear q3 q4
      go_wp2_with fail
      refine (HF.out w2 hb12).mono ?_
      rintro e w3 ⟨rfl, hb3⟩
      have hb13 := hb12.trans (hb3.mono hb12.size)
      have HI2 : Hid (∀ W, Below w3.heap.size w3 W → _) := fun W hW => HI.out W _ _ (hb13.trans (hW.mono hb13.size)) (HFL.out W (hb3.trans (hW.mono hb3.size)))
      clear HFL HI
      go_wp2_with (first | (go_at_call 19; refine (HS.out _).mono ?_; rintro e w4 ⟨rfl, hb4⟩) | (go_at_call 15; refine (HI2.out w4 hb4).mono ?_; rintro e w5 ⟨rfl, hb5⟩))
      go_ret
      have hb14 := hb13.trans (hb4.mono hb13.size)
      exact ⟨rfl, hb14.trans (hb5.mono hb14.size)⟩
    | ok out =>
      have hlen := hlen out rfl
      have HE := Hid.mk' hE
      have HF := Hid.mk' hF
      simp only [DecIs, RefIs] at HE HF
      have HI : Hid (∀ W, _) := fun W => lawIs_none 0 W
      have HS : Hid (∀ W va vb, Runes W va out → Runes W vb out → _) := fun W va vb h1 h2 => same_any va vb out W hlen h1 h2
      clear hg hE hF hc
      go_enter Tryd.func8, Tryd.ntmps8
      go_wp2_with fail
      refine HA.out.mono ?_
      rintro e w1 ⟨rfl, hb1⟩
      go_wp2_with fail
      refine (HE.out w1 hb1).mono ?_
      rintro e w2 ⟨v, rfl, hown, hb2⟩
      have hb12 := hb1.trans (hb2.mono hb1.size)
      have HR2 := Hid.mk' (Runes.own hown)
      obtain ⟨va, vcp, rfl⟩ := own_slice hown
      clear hown
      go_wp2_with fail
      refine (HF.out w2 hb12).mono ?_
      rintro e w3 ⟨v3, rfl, hown, hb3⟩
      have hb13 := hb12.trans (hb3.mono hb12.size)
      have HS2 := Hid.mk' (HS.out w3 _ v3 (HR2.out.below hb3) (Runes.own hown))
      obtain ⟨vb, vcq, rfl⟩ := own_slice hown
      clear hown HS HR2
      go_wp2_with (first | (go_at_call 19; refine HS2.out.mono ?_; rintro e w4 ⟨rfl, hb4⟩) | (go_at_call 15; refine (HI.out _).mono ?_; rintro e w5 ⟨rfl, rfl⟩))
      go_ret
      exact ⟨rfl, hb13.trans (hb4.mono hb13.size)⟩
  · have hd : decide (130 < s.size) = true := decide_eq_true (by omega)
    clear hg
    go_enter Tryd.func8, Tryd.ntmps8
    go_wp2_with fail
    refine HA.out.mono ?_
    rintro e w1 ⟨rfl, hb1⟩
    go_wp2
    go_ret
    exact ⟨rfl, hb1⟩
end Go.Proofs.YtockmkcoehepiaaDoor

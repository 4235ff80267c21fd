/-
  What is proved here: what puny.Decode answers at every text.
-/
import Derived.Test.YtockmkcoehepiaaDoorZB
import Derived.Test.YtockmkcoehepiaaDoorZC
import Derived.Deep.LoopGhost
namespace Go.Proofs.YtockmkcoehepiaaDoor
open Go.RowKit Go.Shelf

/-- what Decode leaves -/
def DecIs (w w' : World) (p : Nat → Addr) (e : Ending) : DecR → Prop
  | .bad a c => ∃ fv, e = .returned (.tuple #[.slice none 0 0, fv]) ∧ Flt w' fv w.heap.size a (p c) ∧ Below w.heap.size w w'
  | .ok out => ∃ v, e = .returned (.tuple #[v, .nilIface]) ∧ w'.ownsRow w.heap.size 21 1 v out.length (cellsOf out) ∧ Below w.heap.size w w'
theorem rd_rest {bias : Int} {bs rest : List Int} {a a' : Nat} {d : Int} (h : rdM bias (bs.drop a) a 0 0 1 = .ok d rest a') : rest = bs.drop a' ∧ a' ≤ max a bs.length := by
  obtain ⟨C, d', e1, e2, e3, e4, e5, e6, e7⟩ := rd_ok bias _ a 0 0 1 d rest a' (by omega) (by omega) h
  have e8 : rest = (bs.drop a).drop C.length := by rw [e1, List.drop_left]
  refine ⟨by rw [e8, List.drop_drop, e5], ?_⟩
  have := congrArg List.length e1
  rw [List.length_append, List.length_drop] at this
  omega
theorem go_dbd {st : Dst} {d : Int} (h : DBd st) (hd0 : 0 ≤ d) (hd1 : d ≤ 2147483647) (hr : rgtB (rD st d) = true) (hl : st.out.length + 1 ≤ 130) : DBd (goD st d) ∧ (goD st d).out.length = st.out.length + 1 := by
  obtain ⟨n0, n1, i0, i1, m1, b0, b1⟩ := h
  have hl2 : (goD st d).out.length = st.out.length + 1 := ins_len _ _ _
  have e2 := Int.emod_nonneg (d + st.i) (show ((st.out.length : Int) + 1) ≠ 0 by omega)
  have e3 := Int.emod_lt_of_pos (d + st.i) (show 0 < (st.out.length : Int) + 1 by omega)
  have hb := bias_bd st.first hd0 hd1 (show 1 ≤ (st.out.length : Int) + 1 by omega)
  simp [rgtB] at hr
  refine ⟨⟨by show 0 ≤ rD st d; omega, by show rD st d ≤ 1114111; omega, by show 0 ≤ aD st d + 1; unfold aD; omega, ?_, by omega, hb.1, hb.2⟩, hl2⟩
  rw [hl2]
  show aD st d + 1 ≤ _
  unfold aD
  omega
set_option maxRecDepth 20000 in
set_option maxHeartbeats 1000000 in
theorem decode_long (s : ByteArray) (w : World) (p : Nat → Addr) (hg : Gl p w) (hs : 120 < s.size) (hs2 : s.size ≤ 9223372036854775807) :
    Calls Tryd.prog 27 #[.string s] w fun e w' => DecIs w w' p e (.bad 0 3) := by
  have g3 := hg.g3
  simp only [DecIs]
  clear hg
  go_enter Tryd.func27, Tryd.ntmps27
  go_wp2
  go_region
  go_wp2
  go_ret2
  obtain ⟨r1, r2⟩ := fault_new (k := 0) (q := p 3) (Below.refl w.heap.size w)
  exact ⟨_, rfl, r2, r1⟩
set_option maxRecDepth 20000 in
set_option maxHeartbeats 1000000 in
theorem decode_high' (s : ByteArray) (w : World) (p : Nat → Addr) (hg : Gl p w) (hs : s.size ≤ 120) (k : Nat) (hk : highAt s = k) :
    Calls Tryd.prog 27 #[.string s] w fun e w' => DecIs w w' p e (.bad k 1) := by
  have HI := Hid.mk' (strIndexFunc_any s w)
  rw [hk] at HI
  have HG : Hid (∀ W, Below w.heap.size w W → Gl p W) := fun W hW => hg.below hW
  simp only [DecIs]
  clear hg hk
  go_enter Tryd.func27, Tryd.ntmps27
  go_wp2_with fail
  refine HI.out.mono ?_
  rintro e w1 ⟨rfl, hb1⟩
  have g1 := (HG.out w1 hb1).g1
  have HB1 := Hid.mk' hb1
  clear hb1
  go_wp2
  go_region
  go_wp2
  go_ret2
  obtain ⟨r1, r2⟩ := fault_new (k := (k : Int)) (q := p 1) HB1.out
  exact ⟨_, rfl, r2, r1⟩
set_option maxRecDepth 100000 in
set_option maxHeartbeats 2000000 in
theorem decode_run (s : ByteArray) (w : World) (p : Nat → Addr) (hg : Gl p w) (hs : s.size ≤ 120) (hh : highAt s = -1) :
    Calls Tryd.prog 27 #[.string s] w fun e w' => DecIs w w' p e (decM (bytesM s) (fromOf s)) := by
  have HI := Hid.mk' (strIndexFunc_any s w)
  have hp : ∀ j (h : j < s.size), (s[j]'h).toNat < 128 := by
    rcases high_spec s s.size 0 (by omega) with ⟨-, hn⟩ | ⟨i, e, -⟩
    · exact fun j h => hn j (Nat.zero_le _) h
    · unfold highAt at hh; omega
  rw [hh] at HI
  have hF := from_is s
  have hFl : fromOf s ≤ s.size := by have := hF.1; rw [bytes_len] at this; exact this
  have HPL : Hid (∀ B W, Blk W B 86 [.int .i64 72, .bool false, .int .i64 0, .int .i64 0, .int .i64 0, .string s, .int .i64 0, .slice none 0 0] → _) := fun B W hW => plainD_any B s W hs hp hW
  have HON : Hid (∀ B W at1 st v, w.heap.size ≤ B → DecAt W B s at1 st v → DBd st → at1 ≤ s.size → Below w.heap.size w W → _) := fun B W at1 st v hB hD hd ha hb => one_any B s at1 st v W p hD hd hs ha (fun W' hW' => hg.below (hb.trans (hW'.mono hB)))
  have HR : Hid (decR s.size ⟨128, 0, 72, true, (bytesM s).take (fromOf s - 1)⟩ ((bytesM s).drop (fromOf s)) (fromOf s) = decM (bytesM s) (fromOf s)) := by
    show _ = decR (bytesM s).length _ _ _
    rw [bytes_len]
  generalize decM (bytesM s) (fromOf s) = R at *
  generalize fromOf s = F at *
  have HD0 : Hid (DBd ⟨128, 0, 72, true, (bytesM s).take (F - 1)⟩) := by
    refine ⟨by show (0 : Int) ≤ 128; omega, by show (128 : Int) ≤ _; omega, by show (0 : Int) ≤ 0; omega, by show (0 : Int) ≤ _; omega, ?_, by show (0 : Int) ≤ 72; omega, by show (72 : Int) ≤ 215; omega⟩
    show ((bytesM s).take (F - 1)).length ≤ 130
    rw [List.length_take]
    omega
  have HL0 : Hid (((bytesM s).take (F - 1)).length ≤ F) := by show _ ≤ _; rw [List.length_take]; omega
  clear hF hp hg hh
  go_enter Tryd.func27, Tryd.ntmps27
  go_wp2_with fail
  refine HI.out.mono ?_
  rintro e w1 ⟨rfl, hb1⟩
  go_wp2_with fail
  have hB := hb1.size
  have HB1 : Hid (Below w.heap.size w (w1.alloc (.cells #[.int .i64 72, .bool false, .int .i64 0, .int .i64 0, .int .i64 0, .string s, .int .i64 0, .slice none 0 0] 86))) := hb1.alloc hB _
  refine (HPL.out w1.heap.size _ (Blk.new _ _ _)).mono ?_
  rintro e w2 ⟨rfl, ⟨v2, hD2⟩, hb2⟩
  have HB2 : Hid (Below w.heap.size w w2) := HB1.out.trans (hb2.mono hB)
  have HD2 := Hid.mk' hD2
  clear hb1 hb2 hD2 HPL HI HB1
  generalize w1.heap.size = B at *
  go_wp2
  go_loopg [] s.size (fun gk wr => ∃ (at1 : Nat) (st : Dst) (v : Value), at1 ≤ s.size ∧ s.size ≤ at1 + gk ∧ Hid (DecAt wr B s at1 st v) ∧ Hid (DBd st) ∧ Hid (st.out.length ≤ at1) ∧ Hid (Below w.heap.size w wr) ∧ Hid (decR gk st ((bytesM s).drop at1) at1 = R))
  case atStart => exact ⟨F, _, v2, hFl, by omega, HD2, HD0, HL0, HB2, HR⟩
  case round =>
    clear HD2 HD0 HL0 HB2 HR
    obtain ⟨at1, st, v, hat, hgk, HD, HDB, HLE, HB, HR⟩ := hrel
    have c6 := HD.out.1.cell 6 rfl
    by_cases hlt : at1 < s.size
    · obtain ⟨g', rfl⟩ : ∃ g', gk = g' + 1 := ⟨gk - 1, by omega⟩
      have hltz : (at1 : Int) < (s.size : Int) := by omega
      have HO := Hid.mk' (HON.out B wr at1 st v hB HD.out HDB.out hat HB.out)
      have HRC : Hid (contM g' st (rdM st.bias ((bytesM s).drop at1) at1 0 0 1) = R) := by
        show _ = _
        rw [← HR.out, bytes_drop s at1 hlt, decR_cons]
      cases hrd : rdM st.bias ((bytesM s).drop at1) at1 0 0 1 with
      | bad a c =>
        rw [hrd] at HO HRC
        simp only [OneIs] at HO
        have HX : Hid (NumR.bad a c = NumR.bad a c → DecR.bad a c = R) := fun _ => HRC.out
        have HE : Hid (DecR.bad a c = R) := HRC.out
        clear hrd HRC HX HR
        go_wp2_with fail
        refine HO.out.mono ?_
        rintro e w3 ⟨fv, rfl, hf, hb3⟩
        have HF : Hid (Flt w3 fv w.heap.size a (p c)) := hf.weaken HB.out.size rfl
        have HB3 : Hid (Below w.heap.size w w3) := HB.out.trans (hb3.mono hB)
        have HDI : Hid (DecIs w w3 p (.returned (.tuple #[.slice none 0 0, fv])) R) := by
          rw [← HE.out]
          exact ⟨fv, rfl, HF.out, HB3.out⟩
        obtain ⟨fb, q1, rfl, q3, q4⟩ := hf
        clear q3 q4 HF HB3 hb3 HO
        go_wp2
        go_ret2
        exact HDI.out
      | ok d rest a =>
        have hdp := rd_pos hrd
        have hrr := rd_rest hrd
        rw [hrd] at HO HRC
        simp only [OneIs] at HO
        rw [contM_ok] at HRC
        rw [bytes_len] at hrr
        obtain ⟨hd0, hd1, ha1, -, -⟩ := hdp
        by_cases hrg : rgtB (rD st d) = true
        · simp only [hrg, if_true] at HO HRC
          obtain ⟨hG1, hG2⟩ := go_dbd HDB.out hd0 hd1 hrg (by have := HLE.out; omega)
          have HG1 := Hid.mk' hG1
          have HL1 : Hid ((goD st d).out.length ≤ a) := by show _ ≤ _; rw [hG2]; have := HLE.out; omega
          have HR1 : Hid (decR g' (goD st d) ((bytesM s).drop a) a = R) := by show _ = _; rw [← hrr.1]; exact HRC.out
          have ha2 : a ≤ s.size := by have := hrr.2; omega
          clear hrd hrr HRC HR hG1 hG2 hrg
          generalize goD st d = st' at *
          go_wp2_with fail
          refine HO.out.mono ?_
          rintro e w3 ⟨rfl, ⟨v3, hD3⟩, hb3⟩
          have HD3 := Hid.mk' hD3
          have HB3 : Hid (Below w.heap.size w w3) := HB.out.trans (hb3.mono hB)
          clear hD3 hb3 HO
          go_wp2
          go_roundg g'
          case measure => omega
          case rel => exact ⟨a, st', v3, ha2, by omega, HD3, HG1, HL1, HB3, HR1⟩
        · simp only [if_neg hrg] at HO HRC
          have HE : Hid (DecR.bad (a - 1) 4 = R) := HRC.out
          clear hrd hrr HRC HR
          go_wp2_with fail
          refine HO.out.mono ?_
          rintro e w3 ⟨fv, rfl, hf, hb3⟩
          have HF : Hid (Flt w3 fv w.heap.size ((a - 1 : Nat) : Int) (p 4)) := hf.weaken HB.out.size (by omega)
          have HB3 : Hid (Below w.heap.size w w3) := HB.out.trans (hb3.mono hB)
          have HDI : Hid (DecIs w w3 p (.returned (.tuple #[.slice none 0 0, fv])) R) := by
            rw [← HE.out]
            exact ⟨fv, rfl, HF.out, HB3.out⟩
          obtain ⟨fb, q1, rfl, q3, q4⟩ := hf
          clear q3 q4 HF HB3 hb3 HO
          go_wp2
          go_ret2
          exact HDI.out
    · obtain rfl : at1 = s.size := by omega
      have hdl : decide ((s.size : Int) < (s.size : Int)) = false := by simp
      have HE : Hid (DecR.ok st.out = R) := by
        show _ = _
        rw [← HR.out, List.drop_of_length_le (by rw [bytes_len]; exact Nat.le_refl _), decR_nil]
      have c7 := HD.out.1.cell 7 rfl
      obtain ⟨va, vcp, rfl⟩ := own_slice HD.out.2
      have HDI : Hid (DecIs w wr p (.returned (.tuple #[.slice va st.out.length vcp, .nilIface])) R) := by
        rw [← HE.out]
        exact ⟨_, rfl, own_weaken HD.out.2 (by omega), HB.out⟩
      clear HE HR HON HD
      go_wp2
      go_ret2
      exact HDI.out
end Go.Proofs.YtockmkcoehepiaaDoor

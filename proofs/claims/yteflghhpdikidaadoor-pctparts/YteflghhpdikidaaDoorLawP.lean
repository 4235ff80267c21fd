/-
  What is proved here: that PctParts answers true at every list of texts and every byte; how a list of texts that comes in is opened.
-/
import Derived.Test.YteflghhpdikidaaDoorParts0
import Derived.Test.YteflghhpdikidaaDoorLawS
import Derived.Test.YteflghhpdikidaaDoorRefE0
import Derived.SliceStrings
import Derived.OpenShut
namespace Go.Proofs.YteflghhpdikidaaDoor
open Go.RowKit

theorem parts_split (b : UInt8) (h37 : b.toNat ≠ 37) (hp : Pct.plain b.toNat = false) (ss : List ByteArray) (hne : 0 < ss.length) :
    Pct.spl (Pct.cut b (Pct.jn b (ss.map (·.data.toList)) ss.length)) 0 = (ss, 0, 0) := by
  obtain ⟨k, hk⟩ : ∃ k, ss.length = k + 1 := ⟨ss.length - 1, by omega⟩
  rw [hk, Pct.cut_jn b h37 hp _ k (by simp; omega), List.take_of_length_le (by simp; omega), Pct.spl_esf, List.map_map]
  have e : ss.map ((fun l : List UInt8 => (⟨l.toArray⟩ : ByteArray)) ∘ fun x => x.data.toList) = ss := List.map_id ss
  rw [e]

theorem jn_more (b : UInt8) (ls : List (List UInt8)) (k : Nat) (h : k ≠ 0) : Pct.jn b ls (k + 1) = Pct.jn b ls k ++ b :: Pct.esf [] (ls.getD k []) := by rw [Pct.jn, if_neg h]

set_option maxRecDepth 20000 in
set_option maxHeartbeats 1000000 in
theorem parts_any (w : World) (p : Nat → Addr) (hg : Gl p w) (hm : ∃ m, w.cell? ⟨19, 0, none⟩ = some (.int .i64 m)) (v : Value) (ss : List ByteArray) (hv : Texts w v ss) (hln : ss.length ≤ maxLen) (hsz : ∀ s ∈ ss, s.size ≤ maxLen) (bi : Int) (wb : (Lit.int .u8 bi).wf = true) :
    Calls Tryd.prog 8 #[v, .int .u8 bi] w fun e w' => e = .returned (.bool true) ∧ Below w.heap.size w w' := by
  have HW := Hid.mk' (awake2_any w p hg)
  unfold maxLen at hln
  obtain ⟨b, rfl⟩ : ∃ b : UInt8, bi = (b.toNat : Int) := by
    have := bounds_u8 wb
    exact ⟨UInt8.ofNat bi.toNat, by simp; omega⟩
  clear wb
  have HTX := Hid.mk' hv
  obtain ⟨va, vc, rfl, hv⟩ := hv
  have HV := Hid.mk' hv
  clear hv
  by_cases h1 : ss.length < 1
  · clear hg hm hsz
    go_enter Tryd.func8, Tryd.ntmps8
    go_wp2_with (go_at_call 9; refine HW.out.mono ?_; rintro e w1 ⟨rfl, hb1⟩)
    go_ret
    exact ⟨rfl, hb1⟩
  · have d1 : decide ((ss.length : Int) < 1) = false := by simp; omega
    by_cases h8 : 8 < ss.length
    · clear hg hm hsz
      go_enter Tryd.func8, Tryd.ntmps8
      go_wp2_with (go_at_call 9; refine HW.out.mono ?_; rintro e w1 ⟨rfl, hb1⟩)
      go_ret
      exact ⟨rfl, hb1⟩
    · have d8 : decide (8 < (ss.length : Int)) = false := by simp; omega
      by_cases h37 : b.toNat = 37
      · have hz : ((b.toNat : Int) == 37) = true := by simp; omega
        clear hg hm hsz h37
        go_enter Tryd.func8, Tryd.ntmps8
        go_wp2_with (go_at_call 9; refine HW.out.mono ?_; rintro e w1 ⟨rfl, hb1⟩)
        go_ret
        exact ⟨rfl, hb1⟩
      · have hz : ((b.toNat : Int) == 37) = false := by simp; omega
        have HPL := Hid.mk' (fun w => plain_any b.toNat w b.toNat_lt)
        cases hpl : Pct.plain b.toNat
        · rw [hpl] at HPL
          have hmb : ∀ w1, Below w.heap.size w w1 → ∃ m, w1.cell? ⟨19, 0, none⟩ = some (.int .i64 m) := fun w1 hb => by obtain ⟨m, hm⟩ := hm; exact ⟨m, (hb.cell (lt_of_cell hm)).trans hm⟩
          have hhx := Pct.hex_plain b.toNat b.toNat_lt hpl
          have HSP : Hid (∀ (S : ByteArray) w1, S.size ≤ 1000 → S.data.toList = Pct.jn b (ss.map (·.data.toList)) ss.length → Below w.heap.size w w1 → Calls Tryd.prog 19 #[.string S, .int .u8 b.toNat] w1 fun e w' => ∃ v, e = .returned (.tuple #[v, .nilIface]) ∧ Texts w' v ss ∧ Below w1.heap.size w1 w') := fun S w1 hS hd hb => by
            refine (split_any S b w1 p (hg.below hb) hS (hmb w1 hb) h37 hhx).mono ?_
            rw [hd, parts_split b h37 hpl ss (by omega)]
            rintro e w' ⟨hb', h | h⟩
            · obtain ⟨-, v, rfl, ht⟩ := h
              exact ⟨v, rfl, ht, hb'⟩
            · exact absurd rfl h.1
          have HSZ := Hid.mk' hsz
          clear hg hm hmb h37 hpl hhx hsz
          go_enter Tryd.func8, Tryd.ntmps8
          go_wp2_with fail
          refine HW.out.mono ?_
          rintro e w1 ⟨rfl, hb1⟩
          go_wp2_with fail
          refine (HPL.out w1).mono ?_
          rintro e w2 ⟨rfl, hb2⟩
          have hb3 := hb1.trans (hb2.mono hb1.size)
          clear hb1 hb2
          go_wp2
          go_loopw [5, 6] (fun t i wr => ∃ (k : Nat) (T : ByteArray), k ≤ ss.length ∧ i = .int .i64 k ∧ t = .string T ∧ T.size ≤ 61 * k ∧ Below w.heap.size w wr ∧ Hid (T.data.toList = Pct.jn b (ss.map (·.data.toList)) k)) (fun _ i _ => ss.length - (intOf i).toNat)
          case atStart => exact ⟨0, ⟨#[]⟩, Nat.zero_le _, rfl, rfl, by decide, hb3, rfl⟩
          case round =>
            obtain ⟨k, T, hk, rfl, rfl, hT, hbel, HT⟩ := hrel
            by_cases hlt : k < ss.length
            · obtain ⟨ab, ao, rfl, ca0⟩ := HV.out k hlt
              have ca := (hbel.cell (p := ⟨ab, ao + k, none⟩) (lt_of_cell ca0)).trans ca0
              obtain ⟨q, hq⟩ : ∃ q, q = ss.getD k ByteArray.empty := ⟨_, rfl⟩
              have hqm : q.size ≤ maxLen := HSZ.out q (by rw [hq, List.getD, List.getElem?_eq_getElem hlt]; exact List.getElem_mem hlt)
              unfold maxLen at hqm
              rw [← hq] at ca
              have HQ : Hid ((ss.map (·.data.toList)).getD k [] = q.data.toList) := by
                show _ = _
                rw [hq]; simp [List.getD, hlt]
              clear ca0 hq
              by_cases h20 : 20 < q.size
              · go_wp2
                go_ret
                exact ⟨rfl, hbel⟩
              · have hqe := Pct.esf_len [] q.data.toList
                have hqs : q.data.toList.length = q.size := rfl
                have HE : Hid (∀ w1, Calls Tryd.prog 16 #[.string q, .string ⟨#[]⟩] w1 fun e w' => e = .returned (.string (toB (Pct.esf [] q.data.toList))) ∧ Below w1.heap.size w1 w') := fun w1 => escape_any q ⟨#[]⟩ w1 (by omega) (by decide)
                have hes : (toB (Pct.esf [] q.data.toList)).size ≤ 60 := by rw [toB_size]; omega
                have hed := toB_data (Pct.esf [] q.data.toList)
                by_cases hk0 : k = 0
                · subst hk0
                  have HR : Hid ((T ++ toB (Pct.esf [] q.data.toList)).data.toList = Pct.jn b (ss.map (·.data.toList)) (0 + 1)) := by
                    show _ = _
                    rw [ByteArray.data_append, Array.toList_append, HT.out, hed, ← HQ.out]; rfl
                  rw [Nat.add_zero] at ca
                  generalize toB (Pct.esf [] q.data.toList) = E at *
                  clear hed hqe hqs
                  go_wp2_with (go_at_call 16; refine (HE.out _).mono ?_; rintro e w4 ⟨rfl, hb4⟩)
                  go_roundw
                  case rel => exact ⟨0 + 1, _, by omega, by go_num, rfl, by rw [ByteArray.size_append]; omega, hbel.trans (hb4.mono hbel.size), HR⟩
                  case measure => simp [intOf]; omega
                · have hcv := conv_one wr b.toNat
                  have hcb : strOfNums [(b.toNat : Int)] = ⟨#[b]⟩ := by simp [strOfNums]
                  rw [hcb] at hcv
                  have hcs : (ByteArray.mk #[b]).size = 1 := rfl
                  have HR : Hid (((T ++ ByteArray.mk #[b]) ++ toB (Pct.esf [] q.data.toList)).data.toList = Pct.jn b (ss.map (·.data.toList)) (k + 1)) := by
                    show _ = _
                    rw [ByteArray.data_append, ByteArray.data_append, Array.toList_append, Array.toList_append, HT.out, hed, jn_more _ _ _ hk0, HQ.out]; simp
                  have hbel2 := fun o => hbel.alloc hbel.size o
                  have hab := lt_of_cell ca
                  generalize toB (Pct.esf [] q.data.toList) = E at *
                  generalize (ByteArray.mk #[b]) = bb at *
                  have HB2 := Hid.mk' hbel2
                  clear hed hqe hqs hcb hbel2
                  go_wp2_with (go_at_call 16; refine (HE.out _).mono ?_; rintro e w4 ⟨rfl, hb4⟩)
                  go_roundw
                  case rel => exact ⟨k + 1, _, by omega, by go_num, rfl, by rw [ByteArray.size_append, ByteArray.size_append]; omega, (HB2.out _).trans (hb4.mono (HB2.out _).size), HR⟩
                  case measure => simp [intOf]; omega
            · have hke : k = ss.length := by omega
              subst hke
              have HS := Hid.mk' (HSP.out T wr (by omega) HT.out hbel)
              clear HSP
              go_wp2_with fail
              refine HS.out.mono ?_
              rintro e w4 ⟨u, rfl, hu, hb4⟩
              have hb5 := hbel.trans (hb4.mono hbel.size)
              have HST := Hid.mk' (sameTexts_any u _ ss w4 (by omega) hu (HTX.out.below hb5))
              clear hu
              go_wp2_with (go_at_call 21; refine HST.out.mono ?_; rintro e w5 ⟨rfl, hb6⟩)
              go_ret
              exact ⟨rfl, hb5.trans (hb6.mono hb5.size)⟩
        · rw [hpl] at HPL
          clear hg hm hsz h37 hpl
          go_enter Tryd.func8, Tryd.ntmps8
          go_wp2_with fail
          refine HW.out.mono ?_
          rintro e w1 ⟨rfl, hb1⟩
          go_wp2_with (go_at_call 17; refine (HPL.out w1).mono ?_; rintro e w2 ⟨rfl, hb2⟩)
          go_ret
          exact ⟨rfl, hb1.trans (hb2.mono hb1.size)⟩
end Go.Proofs.YteflghhpdikidaaDoor

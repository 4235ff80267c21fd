/-
  What is proved here: what puny.Encode answers where all runes are right, and not too many.
-/
import Derived.Test.YtockmkcoehepiaaDoorZ8
namespace Go.Proofs.YtockmkcoehepiaaDoor
open Go.RowKit Go.Shelf

/-- what holds of the k-th rune that is put in -/
structure AtK (l O : List Int) (k : Nat) (s : Est) (n : Nat) : Prop where
  lt : n < l.length
  ok : EOk s
  r0 : s.n ≤ l.getD n 0
  r1 : l.getD n 0 ≤ 1114111
  a1 : (aheadM l n : Int) ≤ s.m
  nx : s.n < l.getD n 0 ∨ s.i ≤ (aheadM l n : Int)
  m1 : s.m + 1 ≤ 120
  len : s.out.length ≤ 100000
  next : afterE l (O.take (k + 1)) = putE s (l.getD n 0) (aheadM l n)
theorem at_k {l : List Int} (hl : l.length ≤ 120) (hr : ∀ x ∈ l, rgtB x = true) {k : Nat} (hk : k < (ordM l).length) : ∃ n : Nat, (ordM l).getD k 0 = n ∧ AtK l (ordM l) k (afterE l ((ordM l).take k)) n := by
  have hr' : ∀ x ∈ l, x ≤ 1114111 := fun x hx => by have := hr x hx; simp [rgtB] at this; omega
  have hm := ord_mem.1 (show (ordM l).getD k 0 ∈ ordM l from by rw [List.getD_eq_getElem?_getD, List.getElem?_eq_getElem hk]; exact List.getElem_mem _)
  have hsp : ordM l = (ordM l).take k ++ (ordM l).getD k 0 :: (ordM l).drop (k + 1) := by
    have e : (ordM l).getD k 0 = (ordM l)[k] := by rw [List.getD_eq_getElem?_getD, List.getElem?_eq_getElem hk]; rfl
    rw [e, ← List.drop_eq_getElem_cons hk, List.take_append_drop]
  have htk : (ordM l).take (k + 1) = (ordM l).take k ++ [(ordM l).getD k 0] := by
    rw [List.take_succ_eq_append_getElem hk]; simp [List.getD, hk]
  obtain ⟨o1, o2, o3, o4, o5, o6⟩ := ord_step hl hr' _ _ _ hsp
  have hlen := after_len hl hr' _ _ hsp
  have hol := ord_len l
  obtain ⟨n, hn⟩ : ∃ n : Nat, (ordM l).getD k 0 = n := ⟨((ordM l).getD k 0).toNat, by omega⟩
  rw [hn] at hm o2 o3 o4 o5 htk
  have er : rn l (n : Int) = l.getD n 0 := by unfold rn; rw [Int.toNat_natCast]
  rw [er] at o2 o3 o5
  rw [Int.toNat_natCast] at o4 o5
  refine ⟨n, hn, ⟨by omega, o1, o2, o3, o4, o5, o6, by rw [List.length_take] at hlen; omega, ?_⟩⟩
  rw [htk, after_snoc]
  unfold stepE
  rw [er, Int.toNat_natCast]
set_option maxRecDepth 100000 in
set_option maxHeartbeats 1000000 in
theorem encode_run (a : Option Addr) (cap : Nat) (l : List Int) (w : World) (p : Nat → Addr) (hg : Gl p w) (h : RunesC w a cap l) (hl : l.length ≤ 120) (hw : wrongAt l < 0) :
    Calls Tryd.prog 25 #[.slice a l.length cap] w fun e w' => ((encM l).length ≤ 120 ∧ e = .returned (.tuple #[.string (strOfNums (encM l)), .nilIface]) ∨ 120 < (encM l).length ∧ ∃ v, e = .returned (.tuple #[.string ⟨#[]⟩, v]) ∧ Flt w' v w.heap.size 0 (p 3)) ∧ Below w.heap.size w w' := by
  have hr := wrong_none.1 hw
  have hpos : ∀ x ∈ l, 0 ≤ x := fun x hx => by have := hr x hx; simp [rgtB] at this; omega
  have HI := Hid.mk' (indexFunc_any a cap l w h (by omega))
  have hk0 : decide (0 ≤ wrongAt l) = false := decide_eq_false (by omega)
  have hk0' : wrongAt l < 0 := hw
  obtain ⟨W0, hW0⟩ : ∃ W0, w.alloc (.cells #[.int .i64 72, .bool false, .int .i64 0, .int .i64 0, .int .i64 0, .slice none 0 0] 77) = W0 := ⟨_, rfl⟩
  have hb0 : Below w.heap.size w W0 := by rw [← hW0]; exact (Below.refl _ _).alloc (Nat.le_refl _) _
  have HPL := Hid.mk' (plainE_any w.heap.size (.slice a l.length cap) l w W0 h.runes hb0 (Nat.le_refl _) hl hpos (by rw [← hW0]; exact Blk.new _ _ _))
  have HOR : Hid (∀ W, Below w.heap.size w W → _) := fun W hW => order_any a cap l W (h.below hW) hl
  have HAT : Hid (∀ k, k < (ordM l).length → ∃ n : Nat, (ordM l).getD k 0 = n ∧ AtK l (ordM l) k (afterE l ((ordM l).take k)) n) := fun k hk => at_k hl hr hk
  have HAH : Hid (∀ W n, Below w.heap.size w W → n < l.length → _) := fun W n hW hn => ahead_any a cap l n W (h.below hW) hl hn
  have HV : Hid (∀ W, Below w.heap.size w W → RunesC W a cap l) := fun W hW => h.below hW
  have HG : Hid (∀ W, Below w.heap.size w W → Gl p W) := fun W hW => hg.below hW
  have hol : (ordM l).length ≤ 120 := by have := ord_len l; omega
  have hel : (encM l).length ≤ 100000 := by
    have := after_len hl (fun x hx => by have := hr x hx; simp [rgtB] at this; omega) (ordM l) [] (by simp)
    unfold encM
    omega
  have HS0 : Hid (startE l = afterE l ((ordM l).take 0)) := rfl
  have HSE : Hid (encM l = (afterE l ((ordM l).take (ordM l).length)).out) := by rw [List.take_length]; rfl
  generalize encM l = E at *
  generalize startE l = S0 at *
  generalize ordM l = O at *
  generalize wrongAt l = wk at *
  clear h hg hr hpos hw hb0
  subst hW0
  go_enter Tryd.func25, Tryd.ntmps25
  go_wp2_with fail
  refine HI.out.mono ?_
  rintro e w1 ⟨rfl, rfl⟩
  go_wp2_with fail
  refine HPL.out.mono ?_
  rintro e w1 ⟨rfl, ⟨v0, hE1⟩, hb1⟩
  have HO := Hid.mk' (HOR.out w1 hb1)
  have hB1 := hE1.1.lt
  have HE1 := Hid.mk' hE1
  clear hE1 HPL HI
  go_wp2_with fail
  refine HO.out.mono ?_
  rintro e w2 ⟨vO, rfl, ⟨oa, oc, rfl, hI⟩, hb2⟩
  have HB2 : Hid (Below w.heap.size w w2) := hb1.trans (hb2.mono hb1.size)
  have HE2 := Hid.mk' (HE1.out.below hb2)
  have HII : Hid (∀ j, j < O.length → ∃ g, oa = some ⟨g, 0, none⟩ ∧ g ≠ w.heap.size ∧ v0.ownBlock ≠ some g ∧ g < w2.heap.size ∧ w2.cell? ⟨g, j, none⟩ = some (.int .i64 (O.getD j 0))) := fun j hj => by
    obtain ⟨g, e, hgg, hc⟩ := hI j hj
    refine ⟨g, e, by omega, fun e => ?_, lt_of_cell hc, hc⟩
    have := (HE1.out.2.lt g e).2
    omega
  clear hb1 hb2 hI HE1 HO HOR hB1
  go_wp2
  go_loopw [31] (fun x wr => ∃ (k : Nat) (v : Value), x = .int .i64 k ∧ k ≤ O.length ∧ Hid (EncAt wr w.heap.size (afterE l (O.take k)) v) ∧ Hid (Below w.heap.size w wr) ∧ Hid (∀ j, j < O.length → ∃ g, oa = some ⟨g, 0, none⟩ ∧ g ≠ w.heap.size ∧ v.ownBlock ≠ some g ∧ g < wr.heap.size ∧ wr.cell? ⟨g, j, none⟩ = some (.int .i64 (O.getD j 0)))) (fun x _ => O.length - (intOf x).toNat)
  case atStart => exact ⟨0, v0, rfl, Nat.zero_le _, by rw [HS0.out] at HE2; exact HE2, HB2, HII⟩
  case round =>
    clear HE2 HB2 HII HS0
    obtain ⟨k, v, rfl, hk, HE, HB, HI⟩ := hrel
    by_cases hlt : k < O.length
    · obtain ⟨g, rfl, hgB, hgv, hgs, cg⟩ := HI.out k hlt
      obtain ⟨n, hn, hat⟩ := HAT.out k hlt
      rw [hn] at cg
      obtain ⟨q1, q2, q3, q4, q5, q6, q7, q8, q9⟩ := hat
      obtain ⟨b, off, rfl, cn⟩ := (HV.out wr HB.out).2 n q1
      have HA := Hid.mk' (HAH.out wr.drew n HB.out.drew q1)
      have hHA0 : Blk wr w.heap.size 77 _ := HE.out.1
      have HP := Hid.mk' (put_any w.heap.size (afterE l (O.take k)) (l.getD n 0) (aheadM l n) wr.drew v (HE.out.below (Below.refl _ _).drew) q2 q3 q4 (by omega) q5 q6 q7 q8)
      rw [← q9] at HP
      have cn' : wr.drew.cell? ⟨b, off + n, none⟩ = some (.int .i32 (l.getD n 0)) := cn
      have hnz : (n : Int) < (l.length : Int) := by omega
      have hn0 : (0 : Int) ≤ (n : Int) := by omega
      have hklz : (k : Int) < (O.length : Int) := by omega
      have hr31 : l.getD n 0 ≤ 1114111 := q4
      have hr30 : 128 ≤ l.getD n 0 := Int.le_trans q2.n0 q3
      clear hn q2 q3 q4 q5 q6 q7 q8 q9 HE HAT
      generalize l.getD n 0 = r at *
      generalize aheadM l n = ah at *
      have hwr : IntKind.i64.wrap r = r := by rw [IntKind.wrap_i64]; omega
      go_wp2
      go_region_law (first
        | (go_simp; go_at_call 55; refine HA.out.mono ?_; rintro e wa ⟨rfl, rfl⟩)
        | (go_simp; go_at_call 54; refine HP.out.mono ?_; rintro e w5 ⟨rfl, ⟨v', hE5, hv5⟩, hK5, hb5⟩))
      all_goals
        have HE5 := Hid.mk' hE5
        have HB5 : Hid (Below w.heap.size w w5) := HB.out.drew.trans hb5
        have HI5 : Hid (∀ j, j < O.length → ∃ g', some (⟨g, 0, none⟩ : Addr) = some ⟨g', 0, none⟩ ∧ g' ≠ w.heap.size ∧ v'.ownBlock ≠ some g' ∧ g' < w5.heap.size ∧ w5.cell? ⟨g', j, none⟩ = some (.int .i64 (O.getD j 0))) := fun j hj => by
          obtain ⟨g', e, k1, k2, k3, k4⟩ := HI.out j hj
          refine ⟨g', e, k1, ?_, Nat.lt_of_lt_of_le k3 hK5.1, ?_⟩
          · rcases hv5 with e5 | ⟨q, e5, hq⟩
            · rw [e5]; exact k2
            · rw [e5]
              intro e6
              have := Option.some.inj e6
              have hq' : wr.heap.size ≤ q := hq
              omega
          · have := hK5.2 g' k3 k1 (fun e => k2 e.symm)
            rw [World.cell?_of_block (w := wr.drew) (a := ⟨g', j, none⟩) this]
            exact k4
        clear hE5 hv5 hK5 hb5 HI HB
        go_wp2
        go_roundw
        case rel => exact ⟨k + 1, v', by go_num, by omega, HE5, HB5, HI5⟩
        case measure => simp [intOf]; omega
    · obtain rfl : k = O.length := by omega
      obtain ⟨h1, h2⟩ := HE.out
      rw [← HSE.out] at h2
      have c5 := h1.cell 5 rfl
      obtain ⟨ya, yc, rfl⟩ := own_slice h2
      have hcv := conv_own rfl h2
      have g3 := (HG.out wr HB.out).g3
      have HBB := HB
      clear h1 h2 HE HI HAT HAH HV HG HB HSE
      by_cases hE : E.length ≤ 120
      · have hEd : decide (120 < E.length) = false := decide_eq_false (by omega)
        go_wp2
        go_ret2
        exact ⟨.inl ⟨hE, rfl⟩, HBB.out⟩
      · have hE' : 120 < E.length := by omega
        have hEd : decide (120 < E.length) = true := decide_eq_true hE'
        clear hcv
        go_wp2
        go_region
        go_wp2
        go_ret2
        obtain ⟨r1, r2⟩ := fault_new (k := 0) (q := p 3) HBB.out
        exact ⟨.inr ⟨hE', _, rfl, r2⟩, r1⟩
end Go.Proofs.YtockmkcoehepiaaDoor

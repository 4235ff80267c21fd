/-
  What is proved here: what puny's decoder does when it reads a number, and puts its rune in.
-/
import Derived.Test.YtockmkcoehepiaaDoorZB0
namespace Go.Proofs.YtockmkcoehepiaaDoor
open Go.RowKit

/-- what one leaves -/
def OneIs (B : Nat) (s : ByteArray) (st : Dst) (w w' : World) (p : Nat → Addr) (e : Ending) : NumR → Prop
  | .bad a c => ∃ fv, e = .returned fv ∧ Flt w' fv w.heap.size a (p c) ∧ Below B w w'
  | .ok d _ a => if rgtB (rD st d) = true then e = .returned .nilIface ∧ (∃ v, DecAt w' B s a (goD st d) v) ∧ Below B w w' else ∃ fv, e = .returned fv ∧ Flt w' fv w.heap.size ((a : Int) - 1) (p 4) ∧ Below B w w'
set_option maxRecDepth 100000 in
set_option maxHeartbeats 4000000 in
theorem one_any (B : Nat) (s : ByteArray) (at1 : Nat) (st : Dst) (v : Value) (w : World) (p : Nat → Addr) (h : DecAt w B s at1 st v) (hd : DBd st) (hs : s.size ≤ 120) (ha : at1 ≤ s.size) (hG : ∀ W, Below B w W → Gl p W) :
    Calls Tryd.prog 60 #[.pointer (some ⟨B, 0, none⟩)] w fun e w' => OneIs B s st w w' p e (rdM st.bias ((bytesM s).drop at1) at1 0 0 1) := by
  obtain ⟨n0, n1, i0, i1, m1, b0, b1⟩ := hd
  have hBs := h.1.lt
  have HNU := Hid.mk' (number_any B 86 s st.bias _ _ _ _ v at1 w p h.1 hs ha b0 (by omega) (fun W hW => hG W (hW.below (Nat.le_of_lt hBs))))
  have HOW := Hid.mk' h.2
  have HG := Hid.mk' hG
  cases hR : rdM st.bias ((bytesM s).drop at1) at1 0 0 1 with
  | bad a c =>
    rw [hR] at HNU
    unfold NumIs at HNU
    unfold OneIs
    clear h hG hR
    go_enter Tryd.func60, Tryd.ntmps60
    go_wp2_with fail
    refine HNU.out.mono ?_
    rintro e w1 ⟨fv, rfl, hf, hb⟩
    obtain ⟨fb, q1, rfl, q3, q4⟩ := id hf
    have HF := Hid.mk' hf
    clear hf q3 q4
    go_wp2
    go_ret
    exact ⟨_, rfl, HF.out, hb⟩
  | ok d rest a =>
    have hdp := rd_pos hR
    rw [hR] at HNU
    unfold NumIs at HNU
    simp only [OneIs]
    clear hR
    obtain ⟨hd0, hd1, ha1, ha2, -⟩ := hdp
    have ha3 : a ≤ 120 := by
      rw [List.length_drop, bytes_len] at ha2
      omega
    clear ha2
    have q0 : 0 ≤ (d + st.i) / ((st.out.length : Int) + 1) := Int.ediv_nonneg (by omega) (by omega)
    have q1 : (d + st.i) / ((st.out.length : Int) + 1) ≤ d + st.i := Int.ediv_le_self _ (by omega)
    have e2 := Int.emod_nonneg (d + st.i) (show ((st.out.length : Int) + 1) ≠ 0 by omega)
    have e3 := Int.emod_lt_of_pos (d + st.i) (show 0 < (st.out.length : Int) + 1 by omega)
    have HRD : Hid (rD st d = st.n + (d + st.i) / ((st.out.length : Int) + 1)) := rfl
    have HAD : Hid (aD st d = (d + st.i) % ((st.out.length : Int) + 1)) := rfl
    have HGD : Hid (goD st d = ⟨rD st d, aD st d + 1, biasM d (st.out.length + 1) st.first, false, insM st.out (aD st d).toNat (rD st d)⟩) := rfl
    have hrb : 0 ≤ rD st d ∧ rD st d ≤ 2148598118 := by rw [HRD.out]; omega
    have hab : 0 ≤ aD st d ∧ aD st d ≤ st.out.length := by rw [HAD.out]; omega
    have hrg : rgtB (rD st d) = true → rD st d ≤ 1114111 := fun e => by simp [rgtB] at e; omega
    have HRI : Hid (∀ W, _) := fun W => right_any (rD st d) W
    generalize rD st d = r at *
    generalize aD st d = i at *
    generalize goD st d = st' at *
    have HGO : Hid (∀ W, Blk W B 86 [.int .i64 st.bias, .bool (!st.first), .int .i64 st.n, .int .i64 st.i, .int .i64 (st.out.length : Int), .string s, .int .i64 (a : Int), v] → Calls Tryd.prog 103 #[.pointer (some ⟨B, 2, none⟩), .int .i64 d] W fun e w' => e = .returned (.tuple #[]) ∧ Blk w' B 86 [.int .i64 st.bias, .bool (!st.first), .int .i64 r, .int .i64 i, .int .i64 (st.out.length : Int), .string s, .int .i64 (a : Int), v] ∧ On B W w') := fun W hW => by
      have := goOn_any B 86 _ _ st.n st.i (st.out.length : Int) _ d W hW ⟨n0, n1⟩ ⟨i0, by omega⟩ ⟨by omega, by omega⟩ ⟨hd0, hd1⟩
      rw [← HRD.out, ← HAD.out] at this
      exact this
    obtain ⟨hr0, hr1⟩ := hrb
    obtain ⟨hi0, hi1⟩ := hab
    clear q0 q1 e2 e3 HRD HAD hG h
    by_cases hrt : rgtB r = true
    · have hr2 := hrg hrt
      rw [hrt] at HRI
      simp only [hrt, if_true] at *
      have hd4 : decide (1114111 < r) = false := decide_eq_false (by omega)
      have hw32 : IntKind.i32.wrap r = r := by rw [IntKind.wrap_i32]; omega
      go_enter Tryd.func60, Tryd.ntmps60
      go_wp2_with fail
      refine HNU.out.mono ?_
      rintro e w1 ⟨rfl, hk1, ho1⟩
      have HG1 := Hid.mk' (HGO.out w1 hk1)
      have HO1 := Hid.mk' ho1
      clear hk1 ho1
      go_wp2_with fail
      refine HG1.out.mono ?_
      rintro e w2 ⟨rfl, hk2, ho2⟩
      have HO2 := Hid.mk' (HO1.out.trans ho2)
      have HK2 := Hid.mk' hk2
      have c2 := hk2.cell 2 rfl
      clear hk2 ho2
      go_wp2_with fail
      refine (HRI.out _).mono ?_
      rintro e w3 ⟨rfl, rfl⟩
      obtain ⟨ia, hia⟩ : ∃ n : Nat, i = n := ⟨i.toNat, by omega⟩
      subst hia
      have hB2 := HK2.out.lt
      have how2 := owns_on HOW.out HO2.out (Nat.lt_succ_self B)
      obtain ⟨va, vcp, rfl⟩ := own_slice how2
      have c2 := HK2.out.cell 2 rfl
      have c3 := HK2.out.cell 3 rfl
      have c7 := HK2.out.cell 7 rfl
      have HIN : Hid (Calls Tryd.prog 109 #[.slice va st.out.length vcp, .int .i64 (ia : Int), .slice (some ⟨w2.heap.size, 0, none⟩) 1 1] ((w2.alloc (.cells #[.int .i32 r] 21)).drew) fun e w' => ∃ v', e = .returned v' ∧ w'.ownsRow (B + 1) 21 1 v' (st.out.length + 1) (cellsOf (insAt st.out ia r)) ∧ Below (B + 1) ((w2.alloc (.cells #[.int .i32 r] 21)).drew) w') :=
        insert_any (B + 1) st.out ia r _ _ w2.heap.size (by omega) (by omega) (by show B + 1 ≤ (w2.alloc _).heap.size; simp; omega) (owns_below (how2.alloc _) (Below.refl _ _).drew) (fun e => by have := (how2.lt _ e).2; omega) Array.getElem?_push_size
      have HKA : Hid (Blk ((w2.alloc (.cells #[.int .i32 r] 21)).drew) B 86 [.int .i64 st.bias, .bool (!st.first), .int .i64 r, .int .i64 (ia : Int), .int .i64 (st.out.length : Int), .string s, .int .i64 (a : Int), .slice va st.out.length vcp]) := (HK2.out.alloc _).drew
      have HBA : Hid (Below B w ((w2.alloc (.cells #[.int .i32 r] 21)).drew)) := ((HO2.out.below (Nat.le_of_lt hBs)).alloc (Nat.le_of_lt hB2) _).drew
      clear how2 HNU HGO HG1 HO1 HRI HOW hrg
      go_wp2
      go_region_law (go_simp; go_at_call 109; refine HIN.out.mono ?_; rintro e w4 ⟨v', rfl, ho4, hb4⟩; obtain ⟨ga, gc, rfl⟩ := own_some ho4 (by omega); have hk4 := (hb4.block B (Nat.lt_succ_self B)).trans HKA.out; have c74 := Blk.cell hk4 7 rfl; have f74 := Blk.free hk4 7)
      all_goals
        have HK5 : Hid (Blk (w4.setCell ⟨B, 7, none⟩ (.slice (some ⟨ga, 0, none⟩) (st.out.length + 1) gc)) B 86 [.int .i64 st.bias, .bool (!st.first), .int .i64 r, .int .i64 (ia : Int), .int .i64 (st.out.length : Int), .string s, .int .i64 (a : Int), .slice (some ⟨ga, 0, none⟩) (st.out.length + 1) gc]) := Blk.set hk4 7 _
        have HW5 : Hid ((w4.setCell ⟨B, 7, none⟩ (.slice (some ⟨ga, 0, none⟩) (st.out.length + 1) gc)).ownsRow (B + 1) 21 1 (.slice (some ⟨ga, 0, none⟩) (st.out.length + 1) gc) (st.out.length + 1) (cellsOf (insAt st.out ia r))) := ownsRow_setCell_other ho4 (a := ⟨B, 7, none⟩) (fun e => by have := (ho4.lt _ e).1; simp at this; omega) _
        have HB5 : Hid (Below B w (w4.setCell ⟨B, 7, none⟩ (.slice (some ⟨ga, 0, none⟩) (st.out.length + 1) gc))) := (HBA.out.trans (hb4.mono (Nat.le_succ _))).setCell (p := ⟨B, 7, none⟩) (Nat.le_refl B) _
        clear hk4 c74 f74 ho4 hb4 HKA HBA HIN HK2 HO2 c2 c3 c7
        generalize w4.setCell ⟨B, 7, none⟩ (.slice (some ⟨ga, 0, none⟩) (st.out.length + 1) gc) = w5 at *
        have HFI := Hid.mk' (fill_any B 86 _ _ r (ia : Int) (st.out.length : Int) _ w5 HK5.out ⟨hi0, by omega⟩ ⟨by omega, by omega⟩)
        have hB5 := HK5.out.lt
        clear HK5
        go_wp2_with fail
        refine HFI.out.mono ?_
        rintro e w6 ⟨rfl, hk6, ho6⟩
        have HAD := Hid.mk' (adapt_any B 86 st.bias (!st.first) _ d ((st.out.length : Int) + 1) w6.drew hk6.drew ⟨hd0, hd1⟩ ⟨by omega, by omega⟩)
        have c4 : w6.drew.cell? ⟨B, 4, none⟩ = some (.int .i64 ((st.out.length : Int) + 1)) := hk6.cell 4 rfl
        have c4' : w6.cell? ⟨B, 4, none⟩ = some (.int .i64 ((st.out.length : Int) + 1)) := hk6.cell 4 rfl
        have H6 := Hid.mk' ho6.drew
        clear hk6 ho6 HFI
        go_wp2
        go_region_law (go_simp; go_at_call 105; refine HAD.out.mono ?_; rintro e w7 ⟨rfl, hk7, ho7⟩)
        have ho := H6.out.trans ho7
        have HFIN : Hid (DecAt w7 B s a st' (.slice (some ⟨ga, 0, none⟩) (st.out.length + 1) gc)) := by
          rw [HGD.out]
          rw [Bool.not_not] at hk7
          have hlen : (insM st.out ((ia : Int)).toNat r).length = st.out.length + 1 := ins_len _ _ _
          refine ⟨?_, ?_⟩
          · show Blk w7 B _ [_, _, _, _, .int .i64 (((insM st.out ((ia : Int)).toNat r).length : Nat) : Int), _, _, _]
            rw [hlen]
            exact hk7
          · show w7.ownsRow (B + 1) 21 1 _ (insM st.out ((ia : Int)).toNat r).length (cellsOf (insM st.out ((ia : Int)).toNat r))
            rw [hlen, Int.toNat_natCast]
            exact owns_on HW5.out ho (Nat.lt_succ_self B)
        have HFB : Hid (Below B w w7) := HB5.out.trans (ho.below (Nat.le_of_lt hB5))
        clear hk7 ho7 ho c4 c4' HAD
        go_wp2
        go_ret
        exact ⟨rfl, ⟨_, HFIN.out⟩, HFB.out⟩
    · have hrf : rgtB r = false := by simpa using hrt
      rw [hrf] at HRI
      simp only [hrf, Bool.false_eq_true, if_false] at *
      by_cases hbig : 1114111 < r
      · have hd4 : decide (1114111 < r) = true := decide_eq_true hbig
        go_enter Tryd.func60, Tryd.ntmps60
        go_wp2_with fail
        refine HNU.out.mono ?_
        rintro e w1 ⟨rfl, hk1, ho1⟩
        have HG1 := Hid.mk' (HGO.out w1 hk1)
        have HO1 := Hid.mk' ho1
        clear hk1 ho1
        go_wp2_with fail
        refine HG1.out.mono ?_
        rintro e w2 ⟨rfl, hk2, ho2⟩
        have HO2 := Hid.mk' (HO1.out.trans ho2)
        have c2 := hk2.cell 2 rfl
        have c6 := hk2.cell 6 rfl
        have HW2 := Hid.mk' (HO2.out.below (Nat.le_of_lt hBs))
        have g4 := (HG.out w2 HW2.out).g4
        have hB2 := hk2.lt
        clear hk2 ho2 HNU HGO HG1
        go_wp2
        go_region
        go_wp2
        go_ret
        refine ⟨_, rfl, ⟨w2.heap.size, HW2.out.size, rfl, by simp, by simp⟩, (HW2.out.alloc (Nat.le_of_lt hB2) _).drew⟩
      · have hd4 : decide (1114111 < r) = false := decide_eq_false hbig
        have hw32 : IntKind.i32.wrap r = r := by rw [IntKind.wrap_i32]; omega
        go_enter Tryd.func60, Tryd.ntmps60
        go_wp2_with fail
        refine HNU.out.mono ?_
        rintro e w1 ⟨rfl, hk1, ho1⟩
        have HG1 := Hid.mk' (HGO.out w1 hk1)
        have HO1 := Hid.mk' ho1
        clear hk1 ho1
        go_wp2_with fail
        refine HG1.out.mono ?_
        rintro e w2 ⟨rfl, hk2, ho2⟩
        have HO2 := Hid.mk' (HO1.out.trans ho2)
        have c2 := hk2.cell 2 rfl
        have c6 := hk2.cell 6 rfl
        have HW2 := Hid.mk' (HO2.out.below (Nat.le_of_lt hBs))
        have g4 := (HG.out w2 HW2.out).g4
        have hB2 := hk2.lt
        clear hk2 ho2 HNU HGO HG1
        go_wp2_with fail
        refine (HRI.out _).mono ?_
        rintro e w3 ⟨rfl, rfl⟩
        go_wp2
        go_region
        go_wp2
        go_ret
        refine ⟨_, rfl, ⟨w2.heap.size, HW2.out.size, rfl, by simp, by simp⟩, (HW2.out.alloc (Nat.le_of_lt hB2) _).drew⟩
end Go.Proofs.YtockmkcoehepiaaDoor

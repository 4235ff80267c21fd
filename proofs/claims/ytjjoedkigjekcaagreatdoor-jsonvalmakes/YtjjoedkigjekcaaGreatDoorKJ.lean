/-
  What is proved here: what jsonval.Get answers.
-/
import Derived.Test.YtjjoedkigjekcaaGreatDoorKI
import Derived.Test.YtjjoedkigjekcaaGreatDoorJC
namespace Go.Proofs.YtjjoedkigjekcaaGreatDoor
open Go.RowKit

theorem getM_hit {m : List (List UInt8 × J)} {n : List UInt8} {j : Nat} {x : List UInt8 × J} (h : m[j]? = some x) (hx : x.1 = n) (hn : ∀ i, i < j → ∀ y, m[i]? = some y → y.1 ≠ n) : getM m n = some x.2 := by
  unfold getM
  have e : m.find? (fun x => x.1 == n) = some x := by
    rw [List.find?_eq_some_iff_getElem]
    obtain ⟨hj, rfl⟩ := List.getElem?_eq_some_iff.1 h
    exact ⟨by simpa using hx, j, hj, rfl, fun i hi => by simpa using hn i hi _ (List.getElem?_eq_getElem (by omega))⟩
  rw [e]; rfl
theorem getM_none {m : List (List UInt8 × J)} {n : List UInt8} (hn : ∀ i, i < m.length → ∀ y, m[i]? = some y → y.1 ≠ n) : getM m n = none := by
  unfold getM
  have e : m.find? (fun x => x.1 == n) = none := by
    rw [List.find?_eq_none]
    intro x hx
    obtain ⟨i, hi⟩ := List.mem_iff_getElem?.1 hx
    simpa using hn i (List.getElem?_eq_some_iff.1 hi).1 x hi
  rw [e]; rfl
theorem null_value (w : World) : VJ w (.mk 0 [] [] []) [.int .i64 0, .string ⟨#[]⟩, .slice none 0 0, .slice none 0 0] :=
  (VJ_mk ..).2 ⟨none, 0, none, 0, rfl, fun j t h => by simp at h, fun j x h => by simp at h⟩
set_option maxRecDepth 20000 in
set_option maxHeartbeats 4000000 in
theorem get12_not (k : Int) (hk : k ≠ 6) (S N : ByteArray) (a : Option Addr) (la ca : Nat) (b : Option Addr) (lb cb : Nat) (w : World) :
    Calls Tryz.prog 23 #[.agg #[.int .i64 k, .string S, .slice a la ca, .slice b lb cb], .string N] w fun e w' => e = .returned (.tuple #[.agg #[.int .i64 0, .string ⟨#[]⟩, .slice none 0 0, .slice none 0 0], .bool false]) ∧ Below w.heap.size w w' := by
  have hne : (k != 6) = true := by simpa using hk
  have hbk := Blk.new (w.alloc (.cells #[.int .i64 k, .string S, .slice a la ca, .slice b lb cb] 25)) 25 [.int .i64 0, .string ⟨#[]⟩, .slice none 0 0, .slice none 0 0]
  rw [World.size_alloc] at hbk
  have HBK := Hid.mk' hbk
  clear hbk hk
  go_enter Tryz.func23, Tryz.ntmps23
  go_wp2
  exact ret_value_bool Tryz.results23 (w.heap.size + 1) _ _ _ _ _ rfl rfl HBK.out rfl ⟨rfl, ((Below.refl _ w).alloc (Nat.le_refl _) _).alloc (by simp) _⟩
set_option maxRecDepth 20000 in
set_option maxHeartbeats 8000000 in
theorem get12_obj (m : List (List UInt8 × J)) (hm : ∀ x ∈ m, weight x.2 ≤ 4000) (hml : m.length ≤ 100000) (n : List UInt8) (S : ByteArray) (a : Option Addr) (la ca : Nat) (b : Option Addr) (cb : Nat) (w : World) (hM : MemAt w b m) :
    Calls Tryz.prog 23 #[.agg #[.int .i64 6, .string S, .slice a la ca, .slice b m.length cb], .string (strL n)] w fun e w' => (∃ ds : List Value, e = .returned (.tuple #[.agg ds.toArray, .bool (getM m n).isSome]) ∧ VJ w' ((getM m n).getD (.mk 0 [] [] [])) ds) ∧ Below w.heap.size w w' := by
  obtain ⟨W0, hW0, hsz, hb0, hk0, hk1⟩ : ∃ W0, (w.alloc (.cells #[.int .i64 6, .string S, .slice a la ca, .slice b m.length cb] 25)).alloc (.cells #[.int .i64 0, .string ⟨#[]⟩, .slice none 0 0, .slice none 0 0] 25) = W0 ∧ W0.heap.size = w.heap.size + 2 ∧ Below w.heap.size w W0 ∧ Blk W0 w.heap.size 25 [.int .i64 6, .string S, .slice a la ca, .slice b m.length cb] ∧ Blk W0 (w.heap.size + 1) 25 [.int .i64 0, .string ⟨#[]⟩, .slice none 0 0, .slice none 0 0] := by
    refine ⟨_, rfl, by simp, ((Below.refl _ w).alloc (Nat.le_refl _) _).alloc (by simp) _, ?_, ?_⟩
    · exact (Blk.new w _ _).below ((Below.refl _ _).alloc (Nat.le_refl _) _)
    · have h := Blk.new (w.alloc (.cells #[.int .i64 6, .string S, .slice a la ca, .slice b m.length cb] 25)) 25 [.int .i64 0, .string ⟨#[]⟩, .slice none 0 0, .slice none 0 0]
      rw [World.size_alloc] at h
      exact h
  have HMM : Hid (∀ (j : Nat) (x : List UInt8 × J), m[j]? = some x → ∃ (ba oa : Nat) (q0 : Int) (q1 : ByteArray) (q2 : Option Addr) (x2 y2 : Nat) (q3 : Option Addr) (x3 y3 : Nat), b = some ⟨ba, oa, none⟩ ∧ ∀ W, Below w.heap.size w W → (W.cell? ⟨ba, oa + j * 5, none⟩ = some (.string (strL x.1)) ∧ W.cell? ⟨ba, oa + j * 5 + 1, none⟩ = some (.int .i64 q0) ∧ W.cell? ⟨ba, oa + j * 5 + 2, none⟩ = some (.string q1) ∧ W.cell? ⟨ba, oa + j * 5 + 3, none⟩ = some (.slice q2 x2 y2) ∧ W.cell? ⟨ba, oa + j * 5 + 4, none⟩ = some (.slice q3 x3 y3)) ∧ Calls Tryz.prog 43 #[.agg #[.int .i64 q0, .string q1, .slice q2 x2 y2, .slice q3 x3 y3]] W fun e w' => ∃ cs', e = .returned (.agg cs'.toArray) ∧ VA W.heap.size w' x.2 cs' ∧ Below W.heap.size W w') := fun j x hj => by
    obtain ⟨ba, oa, q0, q1, q2, x2, y2, q3, x3, y3, e, h⟩ := memb_full hM hj
    exact ⟨ba, oa, q0, q1, q2, x2, y2, q3, x3, y3, e, fun W hb => ⟨(h W hb).1, copied_any x.2 (hm x (List.mem_of_getElem? hj)) _ W (h W hb).2⟩⟩
  have HE : Hid (∀ W, Below W0.heap.size W0 W → Blk W w.heap.size 25 [.int .i64 6, .string S, .slice a la ca, .slice b m.length cb] ∧ Blk W (w.heap.size + 1) 25 [.int .i64 0, .string ⟨#[]⟩, .slice none 0 0, .slice none 0 0] ∧ Below w.heap.size w W) := fun W hb => ⟨hk0.below hb, hk1.below hb, hb0.trans (hb.mono hb0.size)⟩
  have HT : Hid (∀ W W', Below W0.heap.size W0 W → Below W.heap.size W W' → Below W0.heap.size W0 W') := below_tr
  have HH : Hid (∀ (j : Nat) (x : List UInt8 × J), m[j]? = some x → x.1 = n → (∀ i, i < j → ∀ y, m[i]? = some y → y.1 ≠ n) → getM m n = some x.2) := fun j x h1 h2 h3 => getM_hit h1 h2 h3
  have HN : Hid ((∀ i, i < m.length → ∀ y, m[i]? = some y → y.1 ≠ n) → getM m n = none) := getM_none
  have HTT : Hid (∀ s : List UInt8, (s = n ∧ ((strL s).toList == (strL n).toList) = true) ∨ (s ≠ n ∧ ((strL s).toList == (strL n).toList) = false)) := fun s => text_test s n
  have c0 := hk0.cell 0 rfl
  have c3 := hk0.cell 3 rfl
  have hst : Below W0.heap.size W0 W0 := Below.refl _ _
  obtain ⟨G, hG⟩ : ∃ G, getM m n = G := ⟨_, rfl⟩
  rw [hG] at HH HN ⊢
  generalize strL n = N at *
  clear hM hm hk0 hk1 hG hb0
  go_enter Tryz.func23, Tryz.ntmps23
  go_wp2
  go_loopw [15] (fun x15 wr => ∃ j : Nat, x15 = .int .i64 j ∧ j ≤ m.length ∧ Hid (∀ i, i < j → ∀ y, m[i]? = some y → y.1 ≠ n) ∧ Below W0.heap.size W0 wr) (fun x15 _ => m.length - (intOf x15).toNat)
  case atStart => exact ⟨0, rfl, Nat.zero_le _, Hid.mk' (fun i hi => by omega), hst⟩
  case round =>
    clear hst c0 c3
    obtain ⟨j, rfl, hj, HP, hbr⟩ := hrel
    obtain ⟨-, hr, hfin⟩ := HE.out _ hbr
    by_cases hlt : j < m.length
    · obtain ⟨x, ht⟩ := get_lt hlt
      obtain ⟨ba, oa, q0, q1, q2, x2, y2, q3, x3, y3, rfl, HX⟩ := HMM.out j x ht
      obtain ⟨⟨g0, g1, g2, g3, g4⟩, -⟩ := HX _ hfin
      obtain ⟨W2, hW2, hsz2, hb2, p0, p1, p2, p3, p4⟩ := mem_box wr (.string (strL x.1)) (.int .i64 q0) (.string q1) (.slice q2 x2 y2) (.slice q3 x3 y3)
      have hz2 := HT.out _ _ hbr hb2
      rcases HTT.out x.1 with ⟨he, hb⟩ | ⟨he, hb⟩
      · obtain rfl := HH.out j x ht he HP.out
        obtain ⟨-, -, hfin2⟩ := HE.out _ hz2
        have HC := Hid.mk' (HX W2 hfin2).2
        have hz2s := hz2.size
        generalize strL x.1 = X at *
        clear HX HMM HTT HH HN HP ht hr hb2 hbr hfin
        go_wp2_with fail
        refine HC.out.mono ?_
        rintro e w3 ⟨cs', rfl, hva, hb3⟩
        obtain ⟨aa, cca, bb, ccb, rfl⟩ := hva.vj.cells
        obtain ⟨-, hk, hfin3⟩ := HE.out _ (HT.out _ _ hz2 hb3)
        have r0 := hk.cell 0 rfl
        have r1 := hk.cell 1 rfl
        have r2 := hk.cell 2 rfl
        have r3 := hk.cell 3 rfl
        have f0 := hk.free 0
        have f1 := hk.free 1
        have f2 := hk.free 2
        have f3 := hk.free 3
        have hk5 := (((hk.set 0 (.int .i64 x.2.k)).set 1 (.string (strL x.2.s))).set 2 (.slice aa x.2.l.length cca)).set 3 (.slice bb x.2.m.length ccb)
        have hb5 := (((hfin3.setCell (p := ⟨w.heap.size + 1, 0, none⟩) (Nat.le_succ _) (.int .i64 x.2.k)).setCell (p := ⟨w.heap.size + 1, 1, none⟩) (Nat.le_succ _) (.string (strL x.2.s))).setCell (p := ⟨w.heap.size + 1, 2, none⟩) (Nat.le_succ _) (.slice aa x.2.l.length cca)).setCell (p := ⟨w.heap.size + 1, 3, none⟩) (Nat.le_succ _) (.slice bb x.2.m.length ccb)
        have hlt5 : w.heap.size + 1 < W2.heap.size := by omega
        have hvj := hva ((((w3.setCell ⟨w.heap.size + 1, 0, none⟩ (.int .i64 x.2.k)).setCell ⟨w.heap.size + 1, 1, none⟩ (.string (strL x.2.s))).setCell ⟨w.heap.size + 1, 2, none⟩ (.slice aa x.2.l.length cca)).setCell ⟨w.heap.size + 1, 3, none⟩ (.slice bb x.2.m.length ccb))
          ((((Agree.store w3 (w.heap.size + 1) 0 _ hlt5).trans (by simp) (Agree.store _ (w.heap.size + 1) 1 _ hlt5)).trans (by simp) (Agree.store _ (w.heap.size + 1) 2 _ hlt5)).trans (by simp) (Agree.store _ (w.heap.size + 1) 3 _ hlt5))
        have HK5 := Hid.mk' hk5
        have HB5 := Hid.mk' hb5
        have HVJ := Hid.mk' hvj
        clear HC hva hb3 hk hfin3 hk5 hb5 hvj g0 g1 g2 g3 g4 p0 p1 p2 p3 p4 hz2 hfin2 HE HT
        go_wp2
        exact ret_value_bool Tryz.results23 (w.heap.size + 1) _ _ _ _ _ rfl rfl HK5.out rfl ⟨⟨_, rfl, HVJ.out⟩, HB5.out⟩
      · have HP2 : Hid (∀ i, i < j + 1 → ∀ y, m[i]? = some y → y.1 ≠ n) := fun i hi y hy => by
          rcases Nat.lt_or_ge i j with h | h
          · exact HP.out i h y hy
          · obtain rfl : i = j := by omega
            rw [ht] at hy
            cases hy
            exact he
        generalize strL x.1 = X at *
        clear HX HMM HTT HH HN HP ht he hr hb2 hfin
        go_wp2
        go_roundw
        case rel => exact ⟨j + 1, by go_num, by omega, HP2, hz2⟩
        case measure => simp [intOf]; omega
    · obtain rfl := HN.out (fun i hi => HP.out i (by omega))
      have r0 := hr.cell 0 rfl
      have r1 := hr.cell 1 rfl
      have r2 := hr.cell 2 rfl
      have r3 := hr.cell 3 rfl
      have f0 := hr.free 0
      have f1 := hr.free 1
      have f2 := hr.free 2
      have f3 := hr.free 3
      have hk5 := (((hr.set 0 (.int .i64 0)).set 1 (.string ⟨#[]⟩)).set 2 (.slice none 0 0)).set 3 (.slice none 0 0)
      have hb5 := (((hfin.setCell (p := ⟨w.heap.size + 1, 0, none⟩) (Nat.le_succ _) (.int .i64 0)).setCell (p := ⟨w.heap.size + 1, 1, none⟩) (Nat.le_succ _) (.string ⟨#[]⟩)).setCell (p := ⟨w.heap.size + 1, 2, none⟩) (Nat.le_succ _) (.slice none 0 0)).setCell (p := ⟨w.heap.size + 1, 3, none⟩) (Nat.le_succ _) (.slice none 0 0)
      have HK5 := Hid.mk' hk5
      have HB5 := Hid.mk' hb5
      clear HMM HTT HH HN HP hr hbr hfin hk5 hb5 HE HT
      go_wp2
      exact ret_value_bool Tryz.results23 (w.heap.size + 1) _ _ _ _ _ rfl rfl HK5.out rfl ⟨⟨_, rfl, null_value _⟩, HB5.out⟩
theorem get12_any (t : J) (hw : weight t ≤ 4000) (n : List UInt8) (cs : List Value) (w : World) (hv : VJ w t cs) (hg : Good gd t) :
    Calls Tryz.prog 23 #[.agg cs.toArray, .string (strL n)] w fun e w' => (∃ ds : List Value, e = .returned (.tuple #[.agg ds.toArray, .bool (getM t.m n).isSome]) ∧ VJ w' ((getM t.m n).getD (.mk 0 [] [] [])) ds) ∧ Below w.heap.size w w' := by
  obtain ⟨k, s, l, m⟩ := t
  obtain ⟨a, ca, b, cb, rfl, hL, hM⟩ := (VJ_mk ..).1 hv
  obtain ⟨-, -, hs3, -, hs5⟩ := weight_parts hw
  by_cases h6 : k = 6
  · subst h6
    exact get12_obj m (fun x hx => by have := hs5 x hx; omega) (by omega) n (strL s) a l.length ca b cb w hM
  · have hm : m = [] := by
      obtain ⟨⟨⟨-, -, -, h, -⟩, -⟩, -⟩ := (Good_mk ..).1 hg
      exact List.length_eq_zero_iff.1 (h h6)
    subst hm
    refine (get12_not k h6 (strL s) (strL n) a l.length ca b 0 cb w).mono ?_
    rintro e w' ⟨rfl, hb⟩
    exact ⟨⟨[.int .i64 0, .string ⟨#[]⟩, .slice none 0 0, .slice none 0 0], rfl, null_value w'⟩, hb⟩
end Go.Proofs.YtjjoedkigjekcaaGreatDoor

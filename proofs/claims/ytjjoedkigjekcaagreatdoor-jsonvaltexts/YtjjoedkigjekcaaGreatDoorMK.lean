/-
  What is proved here: what jsonval.appendText and its parts, and Text, answer. · what jsonval.appendMembers, appendText and Text answer. · what jsonval.appendText answers at any right value, and what Text does.
-/
import Derived.Test.YtjjoedkigjekcaaGreatDoorK8
import Derived.Test.YtjjoedkigjekcaaGreatDoorK7
namespace Go.Proofs.YtjjoedkigjekcaaGreatDoor
open Go.RowKit

/-- what is asked of appendText at a value -/
def TextAt (t : J) : Prop := ∀ (W0 : World) (cs : List Value), VJ W0 t cs → ∀ (w : World) (v : Value) (B : Nat) (bs : List UInt8), Below W0.heap.size W0 w → W0.heap.size ≤ B → B ≤ w.heap.size → BR B w v bs → bs.length + 14 * weight t ≤ 1000000000 →
  Calls Tryz.prog 37 #[v, .agg cs.toArray] w fun e w' => ∃ v', e = .returned v' ∧ BR B w' v' (bs ++ textM t) ∧ Goes w v w' v'
theorem comma_first {l : List J} {t : J} (h : l[0]? = some t) : (commaL ((l.take 1).map textM)).tail = textM t := by
  rw [commaL_at h]; simp [commaL]
theorem comma_next {l : List J} {j : Nat} {t : J} (h : l[j]? = some t) (hj : 0 < j) : (commaL ((l.take (j + 1)).map textM)).tail = (commaL ((l.take j).map textM)).tail ++ 44 :: textM t := by
  rw [commaL_at h]
  have hne : commaL ((l.take j).map textM) ≠ [] := by
    cases l with
    | nil => simp at h
    | cons a l =>
      cases j with
      | zero => omega
      | succ j => simp [commaL]
  cases e : commaL ((l.take j).map textM) with
  | nil => exact absurd e hne
  | cons a x => rfl
theorem commaM_first {m : List (List UInt8 × J)} {x : List UInt8 × J} (h : m[0]? = some x) : (commaM ((m.take 1).map fun x => (x.1, textM x.2))).tail = quoteM x.1 ++ 58 :: textM x.2 := by
  rw [commaM_at h]; simp [commaM]
theorem commaM_next {m : List (List UInt8 × J)} {j : Nat} {x : List UInt8 × J} (h : m[j]? = some x) (hj : 0 < j) : (commaM ((m.take (j + 1)).map fun x => (x.1, textM x.2))).tail = (commaM ((m.take j).map fun x => (x.1, textM x.2))).tail ++ 44 :: (quoteM x.1 ++ 58 :: textM x.2) := by
  rw [commaM_at h]
  have hne : commaM ((m.take j).map fun x => (x.1, textM x.2)) ≠ [] := by
    cases m with
    | nil => simp at h
    | cons a m =>
      cases j with
      | zero => omega
      | succ j => simp [commaM]
  cases e : commaM ((m.take j).map fun x => (x.1, textM x.2)) with
  | nil => exact absurd e hne
  | cons a x => rfl
theorem sum_step {α : Type} (f : α → Nat) {l : List α} {j : Nat} {t : α} (h : l[j]? = some t) : ((l.take j).map f).sum + f t ≤ (l.map f).sum := by
  have h1 := sum_take f l (j + 1)
  rw [List.take_add_one, h] at h1
  simp only [Option.toList_some, List.map_append, List.sum_append, List.map_cons, List.map_nil, List.sum_cons, List.sum_nil] at h1
  omega
theorem tail_le {α : Type} (x : List α) : x.tail.length ≤ x.length := by rw [List.length_tail]; omega
set_option maxRecDepth 20000 in
set_option maxHeartbeats 8000000 in
theorem appendList_of (l : List J) (ih : ∀ t ∈ l, TextAt t) (W0 : World) (a : Option Addr) (ca : Nat) (hL : ∀ j t, l[j]? = some t → ∃ ba oa ds, a = some ⟨ba, oa, none⟩ ∧ CellsAt W0 ba (oa + j * 4) ds 4 ∧ VJ W0 t ds)
    (w : World) (v : Value) (B : Nat) (bs : List UInt8) (hw : Below W0.heap.size W0 w) (hWB : W0.heap.size ≤ B) (hB : B ≤ w.heap.size) (hown : BR B w v bs) (hn : bs.length + 14 * (l.map weight).sum + 14 ≤ 1000000000) :
    Calls Tryz.prog 59 #[v, .slice a l.length ca] w fun e w' => ∃ v', e = .returned v' ∧ BR B w' v' (bs ++ 91 :: ((commaL (l.map textM)).tail ++ [93])) ∧ Goes w v w' v' := by
  have HO := Hid.mk' (hown.alloc (.cells (bytesV [91]).toArray 5))
  have HN := Hid.mk' (bytesNew w [91] 5)
  have HG := Hid.mk' ((Goes.refl w v).alloc (.cells (bytesV [91]).toArray 5))
  have HBO : Hid (∀ k, v.ownBlock = some k → B ≤ k) := hown.base
  have HWW : Hid (∀ W u, Goes w v W u → Below W0.heap.size W0 W) := fun W u h => hw.trans ((h.below hB HBO.out).mono hWB)
  have HLL : Hid (∀ (j : Nat) (t : J), l[j]? = some t → ((commaL ((l.take j).map textM)).length ≤ 14 * ((l.take j).map weight).sum ∧ ((l.take j).map weight).sum + weight t ≤ (l.map weight).sum) ∧ ∃ (ba oa : Nat) (q0 : Int) (q1 : ByteArray) (q2 : Option Addr) (x2 y2 : Nat) (q3 : Option Addr) (x3 y3 : Nat), a = some ⟨ba, oa, none⟩ ∧ (∀ W, Below W0.heap.size W0 W → W.cell? ⟨ba, oa + j * 4, none⟩ = some (.int .i64 q0) ∧ W.cell? ⟨ba, oa + j * 4 + 1, none⟩ = some (.string q1) ∧ W.cell? ⟨ba, oa + j * 4 + 2, none⟩ = some (.slice q2 x2 y2) ∧ W.cell? ⟨ba, oa + j * 4 + 3, none⟩ = some (.slice q3 x3 y3)) ∧ ∀ (W : World) (u : Value) (b2 : List UInt8), Below W0.heap.size W0 W → B ≤ W.heap.size → BR B W u b2 → b2.length + 14 * weight t ≤ 1000000000 → Calls Tryz.prog 37 #[u, .agg #[.int .i64 q0, .string q1, .slice q2 x2 y2, .slice q3 x3 y3]] W fun e w' => ∃ v', e = .returned v' ∧ BR B w' v' (b2 ++ textM t) ∧ Goes W u w' v') := fun j t hj => by
    obtain ⟨ba, oa, q0, q1, q2, x2, y2, q3, x3, y3, e, h⟩ := elem_full hL hj
    exact ⟨⟨commaL_len _ (fun t _ => text_len t), sum_step weight hj⟩, ba, oa, q0, q1, q2, x2, y2, q3, x3, y3, e, fun W hb => (h W hb).1, fun W u b2 h1 h2 h3 h4 => ih t (List.mem_of_getElem? hj) W0 _ (h W0 (Below.refl _ _)).2 W u B b2 h1 hWB h2 h3 h4⟩
  have HCL := Hid.mk' (commaL_len l (fun t _ => text_len t))
  have hbl : bs.length ≤ 1000000000 := by omega
  have hll : l.length ≤ 1000000000 := by have := len_sum weight weight_pos l; omega
  clear hown hL ih hw
  go_enter Tryz.func59, Tryz.ntmps59
  go_wp2_with (first | (at_builtin; refine wpList_bytes _ rfl _ _ rfl B _ bs [91] rfl HO.out ⟨w.heap.size, 0, none⟩ 1 1 rfl rfl HN.out (by omega) (by simp; omega) ?_; intro v1 w2 hown1 hgo1; have HO1 := Hid.mk' hown1; have HG1 := Hid.mk' (HG.out.trans hgo1); clear hown1 hgo1))
  have hB2 : B ≤ w2.heap.size := by have := HG1.out.g.size; omega
  go_loopw [0, 12] (fun x0 x12 wr => ∃ (j : Nat), x12 = .int .i64 j ∧ j ≤ l.length ∧ B ≤ wr.heap.size ∧ Hid (BR B wr x0 (bs ++ 91 :: (commaL ((l.take j).map textM)).tail)) ∧ Hid (Goes w v wr x0)) (fun _ x12 _ => l.length - (intOf x12).toNat)
  case atStart => exact ⟨0, rfl, Nat.zero_le _, hB2, HO1, HG1⟩
  case round =>
    clear HO1 HG1 hB2 HO HN HG
    obtain ⟨j, rfl, hj, hBr, HO, HG⟩ := hrel
    by_cases hlt : j < l.length
    · obtain ⟨t, ht⟩ := get_lt hlt
      obtain ⟨⟨hc1, hc2⟩, ba, oa, q0, q1, q2, x2, y2, q3, x3, y3, rfl, hX, HX⟩ := HLL.out j t ht
      obtain ⟨g0, g1, g2, g3⟩ := hX _ (HWW.out _ _ HG.out)
      obtain ⟨W2, hW2, hsz2, hb2, b0, b1, b2, b3⟩ := val_box wr (.int .i64 q0) (.string q1) (.slice q2 x2 y2) (.slice q3 x3 y3)
      have HO2 : Hid (BR B W2 u0 (bs ++ 91 :: (commaL ((l.take j).map textM)).tail)) := by
        have h : BR B (wr.alloc (.cells #[.int .i64 q0, .string q1, .slice q2 x2 y2, .slice q3 x3 y3] 25)) u0 (bs ++ 91 :: (commaL ((l.take j).map textM)).tail) := HO.out.alloc _
        rw [hW2] at h
        exact h
      have HG2 : Hid (Goes w v W2 u0) := by
        have h : Goes w v (wr.alloc (.cells #[.int .i64 q0, .string q1, .slice q2 x2 y2, .slice q3 x3 y3] 25)) u0 := HG.out.alloc _
        rw [hW2] at h
        exact h
      have HNE : Hid (some wr.heap.size ≠ u0.ownBlock) := fun e => by have := HO.out.lt _ e.symm; omega
      have hB3 : B ≤ W2.heap.size := by omega
      have htl := tail_le (commaL ((l.take j).map textM))
      have HXX := Hid.mk' HX
      have HT := Hid.mk' ht
      clear HO HG HX hX ht HLL
      by_cases hj0 : j = 0
      · have hd1 : decide ((j : Int) > 0) = false := by rw [decide_eq_false_iff_not]; omega
        have hd2 : decide (0 < j) = false := by rw [decide_eq_false_iff_not]; omega
        have HE := Hid.mk' (HXX.out W2 u0 _ (HWW.out _ _ HG2.out) hB3 HO2.out (by simp only [List.length_append, List.length_cons]; omega))
        have HEQ : Hid ((bs ++ 91 :: (commaL ((l.take j).map textM)).tail) ++ textM t = bs ++ 91 :: (commaL ((l.take (j + 1)).map textM)).tail) := by
          have ht := HT.out
          subst hj0
          show _ = _
          rw [show 0 + 1 = 1 from rfl, comma_first ht]
          simp [commaL]
        clear HXX HO2 hj0
        go_wp2_with fail
        refine HE.out.mono ?_
        rintro e w3 ⟨v2, rfl, hown2, hgo2⟩
        rw [HEQ.out] at hown2
        have HO3 := Hid.mk' hown2
        have HG3 := Hid.mk' (HG2.out.trans hgo2)
        have hB4 : B ≤ w3.heap.size := by have := hgo2.g.size; omega
        clear hown2 hgo2 HE HEQ HG2 g0 g1 g2 g3 b0 b1 b2 b3
        go_wp2
        go_roundw
        case rel => exact ⟨j + 1, by go_num, by omega, hB4, HO3, HG3⟩
        case measure => simp [intOf]; omega
      · have hdj : decide ((j : Int) > 0) = true := by rw [decide_eq_true_iff]; omega
        have hdj2 : decide (0 < j) = true := by rw [decide_eq_true_iff]; omega
        have HOC := Hid.mk' (HO2.out.alloc (.cells (bytesV [44]).toArray 5))
        have HNC := bytesNew W2 [44] 5
        rw [hsz2] at HNC
        have HNC := Hid.mk' HNC
        have hl1 : (bs ++ 91 :: (commaL ((l.take j).map textM)).tail).length + 1 ≤ 2147483648 := by simp only [List.length_append, List.length_cons]; omega
        have HEQ : Hid (((bs ++ 91 :: (commaL ((l.take j).map textM)).tail) ++ [44]) ++ textM t = bs ++ 91 :: (commaL ((l.take (j + 1)).map textM)).tail) := by
          show _ = _
          rw [comma_next HT.out (by omega)]
          simp
        have HLE : Hid (((bs ++ 91 :: (commaL ((l.take j).map textM)).tail) ++ [44]).length + 14 * weight t ≤ 1000000000) := by
          show _ ≤ _
          simp only [List.length_append, List.length_cons, List.length_nil]; omega
        generalize bs ++ 91 :: (commaL ((l.take j).map textM)).tail = cur at *
        clear HO2
        go_wp2_with (first | (at_builtin; refine wpList_bytes _ rfl _ _ rfl B _ cur [44] rfl HOC.out ⟨wr.heap.size + 1, 0, none⟩ 1 1 rfl rfl HNC.out hl1 (by simp; omega) ?_; intro v2 w4 hown2 hgo2; have HG4 := Hid.mk' ((HG2.out.alloc _).trans hgo2); have hgg := Hid.mk' (((Goes.refl W2 u0).alloc _).trans hgo2); have b0 := hgg.out.cell b0 HNE.out; have b1 := hgg.out.cell b1 HNE.out; have b2 := hgg.out.cell b2 HNE.out; have b3 := hgg.out.cell b3 HNE.out; have hB4 : B ≤ w4.heap.size := (by have := hgg.out.g.size; omega); have HE := Hid.mk' (HXX.out w4 v2 _ (HWW.out _ _ HG4.out) hB4 hown2 HLE.out); clear hown2 hgo2) | (go_at_call 37; refine HE.out.mono ?_; rintro e w3 ⟨v3, rfl, hown3, hgo3⟩; rw [HEQ.out] at hown3; have HO3 := Hid.mk' hown3; have HG3 := Hid.mk' (HG4.out.trans hgo3); have hB5 : B ≤ w3.heap.size := (by have := hgo3.g.size; omega); clear hown3 hgo3))
        go_roundw
        case rel => exact ⟨j + 1, by go_num, by omega, hB5, HO3, HG3⟩
        case measure => simp [intOf]; omega
    · have hO : BR B wr u0 (bs ++ 91 :: (commaL (l.map textM)).tail) := by have := HO.out; rwa [List.take_of_length_le (by omega)] at this
      have HO3 := Hid.mk' (hO.alloc (.cells (bytesV [93]).toArray 5))
      have HN := Hid.mk' (bytesNew wr [93] 5)
      have htl := tail_le (commaL (l.map textM))
      have hcl := HCL.out
      have hl : (bs ++ 91 :: (commaL (l.map textM)).tail).length + 1 ≤ 2147483648 := by simp only [List.length_append, List.length_cons]; omega
      have HEQ : Hid ((bs ++ 91 :: (commaL (l.map textM)).tail) ++ [93] = bs ++ 91 :: ((commaL (l.map textM)).tail ++ [93])) := by show _ = _; simp
      generalize bs ++ 91 :: (commaL (l.map textM)).tail = cur at *
      clear HO hO htl hcl HLL
      go_wp2_with (first | (at_builtin; refine wpList_bytes _ rfl _ _ rfl B _ cur [93] rfl HO3.out ⟨wr.heap.size, 0, none⟩ 1 1 rfl rfl HN.out hl (by simp; omega) ?_; intro v3 w4 hown3 hgo3; have HO4 := Hid.mk' hown3; have HG4 := Hid.mk' ((HG.out.alloc _).trans hgo3); clear hown3 hgo3))
      go_ret
      exact ⟨_, rfl, by rw [← HEQ.out]; exact HO4.out, HG4.out⟩
end Go.Proofs.YtjjoedkigjekcaaGreatDoor
namespace Go.Proofs.YtjjoedkigjekcaaGreatDoor
open Go.RowKit

set_option maxRecDepth 20000 in
set_option maxHeartbeats 8000000 in
theorem appendMembers_of (m : List (List UInt8 × J)) (ih : ∀ x ∈ m, TextAt x.2) (hnm : ∀ x ∈ m, x.1.length ≤ 4000) (W0 : World) (b : Option Addr) (cb : Nat) (hM : ∀ j x, m[j]? = some x → ∃ bb ob ds, b = some ⟨bb, ob, none⟩ ∧ CellsAt W0 bb (ob + j * 5) (.string (strL x.1) :: ds) 5 ∧ VJ W0 x.2 ds)
    (w : World) (v : Value) (B : Nat) (bs : List UInt8) (hw : Below W0.heap.size W0 w) (hWB : W0.heap.size ≤ B) (hB : B ≤ w.heap.size) (hown : BR B w v bs) (hn : bs.length + 14 * (m.map fun x => x.1.length + weight x.2).sum + 14 ≤ 1000000000) :
    Calls Tryz.prog 60 #[v, .slice b m.length cb] w fun e w' => ∃ v', e = .returned v' ∧ BR B w' v' (bs ++ 123 :: ((commaM (m.map fun x => (x.1, textM x.2))).tail ++ [125])) ∧ Goes w v w' v' := by
  have HO := Hid.mk' (hown.alloc (.cells (bytesV [123]).toArray 5))
  have HN := Hid.mk' (bytesNew w [123] 5)
  have HG := Hid.mk' ((Goes.refl w v).alloc (.cells (bytesV [123]).toArray 5))
  have HBO : Hid (∀ k, v.ownBlock = some k → B ≤ k) := hown.base
  have HWW : Hid (∀ W u, Goes w v W u → Below W0.heap.size W0 W) := fun W u h => hw.trans ((h.below hB HBO.out).mono hWB)
  have HMM : Hid (∀ (j : Nat) (x : List UInt8 × J), m[j]? = some x → ((commaM ((m.take j).map fun x => (x.1, textM x.2))).length ≤ 14 * ((m.take j).map fun x => x.1.length + weight x.2).sum ∧ ((m.take j).map fun x => x.1.length + weight x.2).sum + (x.1.length + weight x.2) ≤ (m.map fun x => x.1.length + weight x.2).sum ∧ (quoteM x.1).length ≤ 6 * x.1.length + 2 ∧ x.1.length ≤ 4000 ∧ 1 ≤ weight x.2) ∧ ∃ (ba oa : Nat) (q0 : Int) (q1 : ByteArray) (q2 : Option Addr) (x2 y2 : Nat) (q3 : Option Addr) (x3 y3 : Nat), b = some ⟨ba, oa, none⟩ ∧ (∀ W, Below W0.heap.size W0 W → W.cell? ⟨ba, oa + j * 5, none⟩ = some (.string (strL x.1)) ∧ W.cell? ⟨ba, oa + j * 5 + 1, none⟩ = some (.int .i64 q0) ∧ W.cell? ⟨ba, oa + j * 5 + 2, none⟩ = some (.string q1) ∧ W.cell? ⟨ba, oa + j * 5 + 3, none⟩ = some (.slice q2 x2 y2) ∧ W.cell? ⟨ba, oa + j * 5 + 4, none⟩ = some (.slice q3 x3 y3)) ∧ ∀ (W : World) (u : Value) (b2 : List UInt8), Below W0.heap.size W0 W → B ≤ W.heap.size → BR B W u b2 → b2.length + 14 * weight x.2 ≤ 1000000000 → Calls Tryz.prog 37 #[u, .agg #[.int .i64 q0, .string q1, .slice q2 x2 y2, .slice q3 x3 y3]] W fun e w' => ∃ v', e = .returned v' ∧ BR B w' v' (b2 ++ textM x.2) ∧ Goes W u w' v') := fun j x hj => by
    obtain ⟨ba, oa, q0, q1, q2, x2, y2, q3, x3, y3, e, h⟩ := memb_full hM hj
    exact ⟨⟨commaM_len _ (fun x _ => text_len x.2), sum_step (fun x : List UInt8 × J => x.1.length + weight x.2) hj, quoteM_len x.1, hnm x (List.mem_of_getElem? hj), weight_pos x.2⟩, ba, oa, q0, q1, q2, x2, y2, q3, x3, y3, e, fun W hb => (h W hb).1, fun W u b2 h1 h2 h3 h4 => ih x (List.mem_of_getElem? hj) W0 _ (h W0 (Below.refl _ _)).2 W u B b2 h1 hWB h2 h3 h4⟩
  have HCL := Hid.mk' (commaM_len m (fun x _ => text_len x.2))
  have hbl : bs.length ≤ 1000000000 := by omega
  have hll : m.length ≤ 1000000000 := by have := len_sum (fun x : List UInt8 × J => x.1.length + weight x.2) (fun x => by have := weight_pos x.2; omega) m; omega
  clear hown hM ih hw hnm
  go_enter Tryz.func60, Tryz.ntmps60
  go_wp2_with (first | (at_builtin; refine wpList_bytes _ rfl _ _ rfl B _ bs [123] rfl HO.out ⟨w.heap.size, 0, none⟩ 1 1 rfl rfl HN.out (by omega) (by simp; omega) ?_; intro v1 w2 hown1 hgo1; have HO1 := Hid.mk' hown1; have HG1 := Hid.mk' (HG.out.trans hgo1); clear hown1 hgo1))
  have hB2 : B ≤ w2.heap.size := by have := HG1.out.g.size; omega
  go_loopw [0, 12] (fun x0 x12 wr => ∃ (j : Nat), x12 = .int .i64 j ∧ j ≤ m.length ∧ B ≤ wr.heap.size ∧ Hid (BR B wr x0 (bs ++ 123 :: (commaM ((m.take j).map fun x => (x.1, textM x.2))).tail)) ∧ Hid (Goes w v wr x0)) (fun _ x12 _ => m.length - (intOf x12).toNat)
  case atStart => exact ⟨0, rfl, Nat.zero_le _, hB2, HO1, HG1⟩
  case round =>
    clear HO1 HG1 hB2 HO HN HG
    obtain ⟨j, rfl, hj, hBr, HO, HG⟩ := hrel
    by_cases hlt : j < m.length
    · obtain ⟨x, ht⟩ := get_lt hlt
      obtain ⟨⟨hc1, hc2, hc3, hc4, hc5⟩, ba, oa, q0, q1, q2, x2, y2, q3, x3, y3, rfl, hX, HX⟩ := HMM.out j x ht
      obtain ⟨g0, g1, g2, g3, g4⟩ := hX _ (HWW.out _ _ HG.out)
      obtain ⟨W2, hW2, hsz2, hb2, b0, b1, b2, b3, b4⟩ := mem_box wr (.string (strL x.1)) (.int .i64 q0) (.string q1) (.slice q2 x2 y2) (.slice q3 x3 y3)
      have HO2 : Hid (BR B W2 u0 (bs ++ 123 :: (commaM ((m.take j).map fun x => (x.1, textM x.2))).tail)) := by
        have h : BR B (wr.alloc (.cells #[.string (strL x.1), .int .i64 q0, .string q1, .slice q2 x2 y2, .slice q3 x3 y3] 43)) u0 (bs ++ 123 :: (commaM ((m.take j).map fun x => (x.1, textM x.2))).tail) := HO.out.alloc _
        rw [hW2] at h
        exact h
      have HG2 : Hid (Goes w v W2 u0) := by
        have h : Goes w v (wr.alloc (.cells #[.string (strL x.1), .int .i64 q0, .string q1, .slice q2 x2 y2, .slice q3 x3 y3] 43)) u0 := HG.out.alloc _
        rw [hW2] at h
        exact h
      have HNE : Hid (some wr.heap.size ≠ u0.ownBlock) := fun e => by have := HO.out.lt _ e.symm; omega
      have hB3 : B ≤ W2.heap.size := by omega
      have htl := tail_le (commaM ((m.take j).map fun x => (x.1, textM x.2)))
      have HXX := Hid.mk' HX
      have HT := Hid.mk' ht
      have HQ : Hid (∀ (W : World) (u : Value) (b2 : List UInt8), B ≤ W.heap.size → BR B W u b2 → b2.length ≤ 1000000000 → Calls Tryz.prog 38 #[u, .string (strL x.1)] W fun e w' => ∃ v', e = .returned v' ∧ BR B w' v' (b2 ++ quoteM x.1) ∧ Goes W u w' v') := fun W u b2 h1 h2 h3 => appendQuoted_any x.1 u B b2 W h2 h1 hc4 h3
      have HEQ0 : Hid (j = 0 → ((bs ++ 123 :: (commaM ((m.take j).map fun x => (x.1, textM x.2))).tail) ++ quoteM x.1 ++ [58]) ++ textM x.2 = bs ++ 123 :: (commaM ((m.take (j + 1)).map fun x => (x.1, textM x.2))).tail) := fun h0 => by
        subst h0
        rw [show 0 + 1 = 1 from rfl, commaM_first ht]
        simp [commaM]
      have HEQ1 : Hid (0 < j → (((bs ++ 123 :: (commaM ((m.take j).map fun x => (x.1, textM x.2))).tail) ++ [44]) ++ quoteM x.1 ++ [58]) ++ textM x.2 = bs ++ 123 :: (commaM ((m.take (j + 1)).map fun x => (x.1, textM x.2))).tail) := fun h0 => by
        rw [commaM_next ht h0]
        simp
      have hcl : (bs ++ 123 :: (commaM ((m.take j).map fun x => (x.1, textM x.2))).tail).length + 1 + (quoteM x.1).length + 1 + 14 * weight x.2 ≤ 1000000000 := by simp only [List.length_append, List.length_cons]; omega
      generalize bs ++ 123 :: (commaM ((m.take j).map fun x => (x.1, textM x.2))).tail = cur at *
      generalize strL x.1 = X at *
      generalize quoteM x.1 = qm at *
      generalize textM x.2 = tm at *
      generalize weight x.2 = wt at *
      clear HO HG HX hX ht HMM HT hc1 hc2 hc3 htl
      by_cases hj0 : j = 0
      · have hd1 : decide ((j : Int) > 0) = false := by rw [decide_eq_false_iff_not]; omega
        have hd2 : decide (0 < j) = false := by rw [decide_eq_false_iff_not]; omega
        have HEQ := Hid.mk' (HEQ0.out hj0)
        have HE := Hid.mk' (HQ.out W2 u0 cur hB3 HO2.out (by omega))
        clear HQ HO2 HEQ0 HEQ1 hj0
        go_wp2_with fail
        refine HE.out.mono ?_
        rintro e w3 ⟨v2, rfl, hown2, hgo2⟩
        have HG3 := Hid.mk' (HG2.out.trans hgo2)
        have b1 := hgo2.cell b1 HNE.out
        have b2 := hgo2.cell b2 HNE.out
        have b3 := hgo2.cell b3 HNE.out
        have b4 := hgo2.cell b4 HNE.out
        have HNE2 : Hid (some wr.heap.size ≠ v2.ownBlock) := fun e => by
          rcases hgo2.o with o | ⟨k, o, hk⟩
          · exact HNE.out (e.trans o)
          · rw [o] at e
            have : wr.heap.size = k := by simpa using e
            omega
        have hB4 : B ≤ w3.heap.size := by have := hgo2.g.size; omega
        have hlq : (cur ++ qm).length + 1 ≤ 2147483648 := by simp only [List.length_append]; omega
        have HOC := Hid.mk' (hown2.alloc (.cells (bytesV [58]).toArray 5))
        have HNC := Hid.mk' (bytesNew w3 [58] 5)
        have HLE : Hid ((cur ++ qm ++ [58]).length + 14 * wt ≤ 1000000000) := by show _ ≤ _; simp only [List.length_append, List.length_cons, List.length_nil]; omega
        clear hown2 hgo2 HE HG2 g0 g1 g2 g3 g4 b0 HNE
        go_wp2_with (first | (at_builtin; refine wpList_bytes _ rfl _ _ rfl B _ (cur ++ qm) [58] rfl HOC.out ⟨w3.heap.size, 0, none⟩ 1 1 rfl rfl HNC.out hlq (by simp; omega) ?_; intro v3 w4 hown3 hgo3; have HG4 := Hid.mk' ((HG3.out.alloc _).trans hgo3); have hgg := Hid.mk' (((Goes.refl w3 v2).alloc _).trans hgo3); have b1 := hgg.out.cell b1 HNE2.out; have b2 := hgg.out.cell b2 HNE2.out; have b3 := hgg.out.cell b3 HNE2.out; have b4 := hgg.out.cell b4 HNE2.out; have hB5 : B ≤ w4.heap.size := (by have := hgg.out.g.size; omega); have HE2 := Hid.mk' (HXX.out w4 v3 _ (HWW.out _ _ HG4.out) hB5 hown3 HLE.out); clear hown3 hgo3) | (go_at_call 37; refine HE2.out.mono ?_; rintro e w5 ⟨v4, rfl, hown4, hgo4⟩; rw [HEQ.out] at hown4; have HO5 := Hid.mk' hown4; have HG5 := Hid.mk' (HG4.out.trans hgo4); have hB6 : B ≤ w5.heap.size := (by have := hgo4.g.size; omega); clear hown4 hgo4))
        go_roundw
        case rel => exact ⟨j + 1, by go_num, by omega, hB6, HO5, HG5⟩
        case measure => simp [intOf]; omega
      · have hd1 : decide ((j : Int) > 0) = true := by rw [decide_eq_true_iff]; omega
        have hd2 : decide (0 < j) = true := by rw [decide_eq_true_iff]; omega
        have HEQ := Hid.mk' (HEQ1.out (by omega))
        have HOK := Hid.mk' (HO2.out.alloc (.cells (bytesV [44]).toArray 5))
        have HNK := bytesNew W2 [44] 5
        rw [hsz2] at HNK
        have HNK := Hid.mk' HNK
        have hl0 : cur.length + 1 ≤ 2147483648 := by omega
        clear HO2 HEQ0 HEQ1 hj0
        go_wp2_with (first | (at_builtin; refine wpList_bytes _ rfl _ _ rfl B _ cur [44] rfl HOK.out ⟨wr.heap.size + 1, 0, none⟩ 1 1 rfl rfl HNK.out hl0 (by simp; omega) ?_; intro v1 w1 hown1 hgo1; have HGG1 := Hid.mk' (((Goes.refl W2 u0).alloc _).trans hgo1); have HOW := Hid.mk' hown1; have b0 := HGG1.out.cell b0 HNE.out; have b1 := HGG1.out.cell b1 HNE.out; have b2 := HGG1.out.cell b2 HNE.out; have b3 := HGG1.out.cell b3 HNE.out; have b4 := HGG1.out.cell b4 HNE.out; clear hown1 hgo1) | fail)
        have hgg1 := HGG1.out
        have hown1 := HOW.out
        have HG1 := Hid.mk' (HG2.out.trans hgg1)
        have hB31 : B ≤ w1.heap.size := by have := hgg1.g.size; omega
        have HE := Hid.mk' (HQ.out w1 v1 (cur ++ [44]) hB31 hown1 (by simp only [List.length_append, List.length_cons, List.length_nil]; omega))
        have HNE1 : Hid (some wr.heap.size ≠ v1.ownBlock) := fun e => by
          rcases hgg1.o with o | ⟨k, o, hk⟩
          · exact HNE.out (e.trans o)
          · rw [o] at e
            have : wr.heap.size = k := by simpa using e
            omega
        have hszw : wr.heap.size + 1 ≤ w1.heap.size := by have := hgg1.g.size; omega
        clear hown1 HOW HGG1 hgg1 HQ HG2 HNE HOK HNK g0 g1 g2 g3 g4
        go_wp2_with fail
        refine HE.out.mono ?_
        rintro e w3 ⟨v2, rfl, hown2, hgo2⟩
        have HG3 := Hid.mk' (HG1.out.trans hgo2)
        have b1 := hgo2.cell b1 HNE1.out
        have b2 := hgo2.cell b2 HNE1.out
        have b3 := hgo2.cell b3 HNE1.out
        have b4 := hgo2.cell b4 HNE1.out
        have HNE2 : Hid (some wr.heap.size ≠ v2.ownBlock) := fun e => by
          rcases hgo2.o with o | ⟨k, o, hk⟩
          · exact HNE1.out (e.trans o)
          · rw [o] at e
            have : wr.heap.size = k := by simpa using e
            omega
        have hB4 : B ≤ w3.heap.size := by have := hgo2.g.size; omega
        have hlq : (cur ++ [44] ++ qm).length + 1 ≤ 2147483648 := by simp only [List.length_append, List.length_cons, List.length_nil]; omega
        have HOC := Hid.mk' (hown2.alloc (.cells (bytesV [58]).toArray 5))
        have HNC := Hid.mk' (bytesNew w3 [58] 5)
        have HLE : Hid ((cur ++ [44] ++ qm ++ [58]).length + 14 * wt ≤ 1000000000) := by show _ ≤ _; simp only [List.length_append, List.length_cons, List.length_nil]; omega
        generalize cur ++ [44] ++ qm = curq at *
        clear hown2 hgo2 HE b0 HNE1 HG1
        go_wp2_with (first | (at_builtin; refine wpList_bytes _ rfl _ _ rfl B _ curq [58] rfl HOC.out ⟨w3.heap.size, 0, none⟩ 1 1 rfl rfl HNC.out hlq (by simp; omega) ?_; intro v3 w4 hown3 hgo3; have HG4 := Hid.mk' ((HG3.out.alloc _).trans hgo3); have hgg := Hid.mk' (((Goes.refl w3 v2).alloc _).trans hgo3); have b1 := hgg.out.cell b1 HNE2.out; have b2 := hgg.out.cell b2 HNE2.out; have b3 := hgg.out.cell b3 HNE2.out; have b4 := hgg.out.cell b4 HNE2.out; have hB5 : B ≤ w4.heap.size := (by have := hgg.out.g.size; omega); have HE2 := Hid.mk' (HXX.out w4 v3 _ (HWW.out _ _ HG4.out) hB5 hown3 HLE.out); clear hown3 hgo3) | (go_at_call 37; refine HE2.out.mono ?_; rintro e w5 ⟨v4, rfl, hown4, hgo4⟩; rw [HEQ.out] at hown4; have HO5 := Hid.mk' hown4; have HG5 := Hid.mk' (HG4.out.trans hgo4); have hB6 : B ≤ w5.heap.size := (by have := hgo4.g.size; omega); clear hown4 hgo4))
        go_roundw
        case rel => exact ⟨j + 1, by go_num, by omega, hB6, HO5, HG5⟩
        case measure => simp [intOf]; omega
    · have hO : BR B wr u0 (bs ++ 123 :: (commaM (m.map fun x => (x.1, textM x.2))).tail) := by have := HO.out; rwa [List.take_of_length_le (by omega)] at this
      have HO3 := Hid.mk' (hO.alloc (.cells (bytesV [125]).toArray 5))
      have HN := Hid.mk' (bytesNew wr [125] 5)
      have htl := tail_le (commaM (m.map fun x => (x.1, textM x.2)))
      have hcl := HCL.out
      have hl : (bs ++ 123 :: (commaM (m.map fun x => (x.1, textM x.2))).tail).length + 1 ≤ 2147483648 := by simp only [List.length_append, List.length_cons]; omega
      have HEQ : Hid ((bs ++ 123 :: (commaM (m.map fun x => (x.1, textM x.2))).tail) ++ [125] = bs ++ 123 :: ((commaM (m.map fun x => (x.1, textM x.2))).tail ++ [125])) := by show _ = _; simp
      generalize bs ++ 123 :: (commaM (m.map fun x => (x.1, textM x.2))).tail = cur at *
      clear HO hO htl hcl HMM
      go_wp2_with (first | (at_builtin; refine wpList_bytes _ rfl _ _ rfl B _ cur [125] rfl HO3.out ⟨wr.heap.size, 0, none⟩ 1 1 rfl rfl HN.out hl (by simp; omega) ?_; intro v3 w4 hown3 hgo3; have HO4 := Hid.mk' hown3; have HG4 := Hid.mk' ((HG.out.alloc _).trans hgo3); clear hown3 hgo3))
      go_ret
      exact ⟨_, rfl, by rw [← HEQ.out]; exact HO4.out, HG4.out⟩
end Go.Proofs.YtjjoedkigjekcaaGreatDoor
namespace Go.Proofs.YtjjoedkigjekcaaGreatDoor
open Go.RowKit

set_option maxRecDepth 20000 in
set_option maxHeartbeats 8000000 in
theorem appendText_any : ∀ t : J, Fine t → weight t ≤ 4000 → TextAt t := by
  refine J.ind ?_
  intro k s l m ihl ihm hfine hwt W0 cs hv w v B bs hw hWB hB hown hn
  obtain ⟨a, ca, b, cb, rfl, hL, hM⟩ := (VJ_mk ..).1 hv
  obtain ⟨hs1, hs2, hs3, hs4, hs5⟩ := weight_parts hwt
  obtain ⟨⟨hk, hf1, hf2, hf3, hf4⟩, hFL, hFM⟩ := (Fine_mk ..).1 hfine
  have hwe := weight_mk k s l m
  rw [hwe] at hn
  obtain ⟨W1, hW1, hsz1, hb1, e0, e1, e2, e3⟩ := val_box w (.int .i64 k) (.string (strL s)) (.slice a l.length ca) (.slice b m.length cb)
  have HO1 : Hid (BR B W1 v bs) := by
    have h : BR B (w.alloc (.cells #[.int .i64 k, .string (strL s), .slice a l.length ca, .slice b m.length cb] 25)) v bs := hown.alloc _
    rw [hW1] at h
    exact h
  have HG1 : Hid (Goes w v W1 v) := by
    have h : Goes w v (w.alloc (.cells #[.int .i64 k, .string (strL s), .slice a l.length ca, .slice b m.length cb] 25)) v := (Goes.refl w v).alloc _
    rw [hW1] at h
    exact h
  have hB1 : B ≤ W1.heap.size := by omega
  have hw1 : Below W0.heap.size W0 W1 := hw.trans (hb1.mono hw.size)
  rw [textM_mk]
  have hbs : bs.length ≤ 1000000000 := by omega
  have hl5 : bs.length + 5 ≤ 2147483648 := by omega
  have hl4 : bs.length + 4 ≤ 2147483648 := by omega
  have hls : bs.length + s.length ≤ 2147483648 := by omega
  have HQ := Hid.mk' (appendQuoted_any s v B bs W1 HO1.out hB1 hs1 hbs)
  have HL := Hid.mk' (appendList_of l (fun t ht => ihl t ht (hFL t ht) (hs4 t ht)) W0 a ca hL W1 v B bs hw1 hWB hB1 HO1.out (by omega))
  have HM := Hid.mk' (appendMembers_of m (fun x hx => ihm x hx (hFM x hx) (by have := hs5 x hx; omega)) (fun x hx => by have := hs5 x hx; omega) W0 b cb hM W1 v B bs hw1 hWB hB1 HO1.out (by omega))
  have hl0 : k ≠ 5 → l = [] := fun h => List.length_eq_zero_iff.1 (hf2 h)
  have hm0 : k ≠ 6 → m = [] := fun h => List.length_eq_zero_iff.1 (hf3 h)
  clear ihl ihm hv hL hM hwt hs4 hs5 hfine hf1 hf2 hf3 hf4 hFL hFM hwe hn hw hw1 hown hs2 hs3
  rcases kinds hk with rfl | rfl | rfl | rfl | rfl | rfl | rfl
  · clear HQ HL HM hl0 hm0 hk
    go_enter Tryz.func37, Tryz.ntmps37
    go_wp2_with (first | (at_builtin; refine wpList_text _ rfl _ _ rfl B _ bs [110, 117, 108, 108] rfl HO1.out rfl hl4 hB1 ?_; intro v1 w2 hown1 hgo1; have HO2 := Hid.mk' hown1; have HG2 := Hid.mk' (HG1.out.trans hgo1); clear hown1 hgo1))
    go_ret
    exact ⟨_, rfl, HO2.out, HG2.out⟩
  · clear HQ HL HM hl0 hm0 hk
    go_enter Tryz.func37, Tryz.ntmps37
    go_wp2_with (first | (at_builtin; refine wpList_text _ rfl _ _ rfl B _ bs [102, 97, 108, 115, 101] rfl HO1.out rfl hl5 hB1 ?_; intro v1 w2 hown1 hgo1; have HO2 := Hid.mk' hown1; have HG2 := Hid.mk' (HG1.out.trans hgo1); clear hown1 hgo1))
    go_ret
    exact ⟨_, rfl, HO2.out, HG2.out⟩
  · clear HQ HL HM hl0 hm0 hk
    go_enter Tryz.func37, Tryz.ntmps37
    go_wp2_with (first | (at_builtin; refine wpList_text _ rfl _ _ rfl B _ bs [116, 114, 117, 101] rfl HO1.out rfl hl4 hB1 ?_; intro v1 w2 hown1 hgo1; have HO2 := Hid.mk' hown1; have HG2 := Hid.mk' (HG1.out.trans hgo1); clear hown1 hgo1))
    go_ret
    exact ⟨_, rfl, HO2.out, HG2.out⟩
  · clear HQ HL HM hl0 hm0 hk
    go_enter Tryz.func37, Tryz.ntmps37
    go_wp2_with (first | (at_builtin; refine wpList_text _ rfl _ _ rfl B _ bs s rfl HO1.out rfl hls hB1 ?_; intro v1 w2 hown1 hgo1; have HO2 := Hid.mk' hown1; have HG2 := Hid.mk' (HG1.out.trans hgo1); clear hown1 hgo1))
    go_ret
    exact ⟨_, rfl, HO2.out, HG2.out⟩
  · clear HL HM hl0 hm0 hk
    generalize strL s = S at *
    go_enter Tryz.func37, Tryz.ntmps37
    go_wp2_with fail
    refine HQ.out.mono ?_
    rintro e w2 ⟨v1, rfl, hown1, hgo1⟩
    have HO2 := Hid.mk' hown1
    have HG2 := Hid.mk' (HG1.out.trans hgo1)
    clear hown1 hgo1 HQ
    go_wp2
    go_ret
    exact ⟨_, rfl, HO2.out, HG2.out⟩
  · obtain rfl := hm0 (by decide)
    simp only [List.length_nil] at hW1 e3
    clear HQ HM hl0 hm0 hk
    generalize strL s = S at *
    go_enter Tryz.func37, Tryz.ntmps37
    go_wp2_with fail
    refine HL.out.mono ?_
    rintro e w2 ⟨v1, rfl, hown1, hgo1⟩
    have HO2 := Hid.mk' hown1
    have HG2 := Hid.mk' (HG1.out.trans hgo1)
    clear hown1 hgo1 HL
    go_wp2
    go_ret
    refine ⟨_, rfl, ?_, HG2.out⟩
    have e : textF 5 s (l.map textM) ([].map fun x : List UInt8 × J => (x.1, textM x.2)) = 91 :: ((commaL (l.map textM)).tail ++ [93]) := by simp [textF, commaM]
    rw [e]
    exact HO2.out
  · obtain rfl := hl0 (by decide)
    simp only [List.length_nil] at hW1 e2
    clear HQ HL hl0 hm0 hk
    generalize strL s = S at *
    go_enter Tryz.func37, Tryz.ntmps37
    go_wp2_with fail
    refine HM.out.mono ?_
    rintro e w2 ⟨v1, rfl, hown1, hgo1⟩
    have HO2 := Hid.mk' hown1
    have HG2 := Hid.mk' (HG1.out.trans hgo1)
    clear hown1 hgo1 HM
    go_wp2
    go_ret
    refine ⟨_, rfl, ?_, HG2.out⟩
    have e : textF 6 s (([] : List J).map textM) (m.map fun x => (x.1, textM x.2)) = 123 :: ((commaM (m.map fun x => (x.1, textM x.2))).tail ++ [125]) := by simp [textF, commaL]
    rw [e]
    exact HO2.out
theorem check_zero {t : J} (h : (checkM gd t).2 = 0) : Good gd t := by
  unfold checkM at h
  by_cases e : (lookM gd t 1 0).2 = 0
  · exact look_good gd t 1 0 e
  · rw [if_neg e] at h
    exact absurd h e
set_option maxRecDepth 20000 in
set_option maxHeartbeats 2000000 in
theorem text12_any (t : J) (hw : weight t ≤ 4000) (cs : List Value) (w : World) (p : Nat → Addr) (hg : Gl p w) (hv : VJ w t cs) :
    Calls Tryz.prog 17 #[.agg cs.toArray] w fun e w' => e = .returned (.string (strL (if (checkM gd t).2 = 0 then textM t else []))) ∧ Below w.heap.size w w' := by
  have hv0 := hv
  obtain ⟨a, ca, b, cb, rfl⟩ := hv.cells
  obtain ⟨W0, hW0, hsz, hb0, e0, e1, e2, e3⟩ := val_box w (.int .i64 t.k) (.string (strL t.s)) (.slice a t.l.length ca) (.slice b t.m.length cb)
  have HC := Hid.mk' (check12_any t hw _ W0 p (hg.below hb0) (hv.below hb0))
  have HE : Hid (∀ W, Below W0.heap.size W0 W → (W.cell? ⟨w.heap.size, 0, none⟩ = some (.int .i64 t.k) ∧ W.cell? ⟨w.heap.size, 1, none⟩ = some (.string (strL t.s)) ∧ W.cell? ⟨w.heap.size, 2, none⟩ = some (.slice a t.l.length ca) ∧ W.cell? ⟨w.heap.size, 3, none⟩ = some (.slice b t.m.length cb)) ∧ Below w.heap.size w W) := fun W hb =>
    ⟨⟨(hb.cell (lt_of_cell e0)).trans e0, (hb.cell (lt_of_cell e1)).trans e1, (hb.cell (lt_of_cell e2)).trans e2, (hb.cell (lt_of_cell e3)).trans e3⟩, hb0.trans (hb.mono hb0.size)⟩
  by_cases h0 : (checkM gd t).2 = 0
  · have HX : Hid (∀ W, Below W0.heap.size W0 W → Calls Tryz.prog 37 #[.slice none 0 0, .agg #[.int .i64 t.k, .string (strL t.s), .slice a t.l.length ca, .slice b t.m.length cb]] W fun e w' => ∃ v', e = .returned v' ∧ BR W.heap.size w' v' ([] ++ textM t) ∧ Goes W (.slice none 0 0) w' v') := fun W hb =>
      appendText_any t (check_zero h0).fine hw W0 _ (hv0.below hb0) W (.slice none 0 0) W.heap.size [] hb hb.size (Nat.le_refl _) (BR.nil _ _) (by simp; omega)
    rw [if_pos h0]
    generalize checkM gd t = q at *
    generalize strL t.s = S at *
    generalize t.l.length = nl at *
    generalize t.m.length = nm at *
    generalize t.k = kk at *
    clear hv hv0 hg
    go_enter Tryz.func17, Tryz.ntmps17
    go_wp2_with fail
    refine HC.out.mono ?_
    rintro e w1 ⟨vv, rfl, hsay, hb1⟩
    obtain rfl : vv = .nilIface := by
      rcases hsay with h | h
      · exact h.2
      · exact absurd h0 h.1
    obtain ⟨⟨f0, f1, f2, f3⟩, hfin⟩ := HE.out _ hb1
    have HX1 := Hid.mk' (HX.out _ hb1)
    clear hsay HC HX HE e0 e1 e2 e3 h0
    go_wp2_with fail
    refine HX1.out.mono ?_
    rintro e w2 ⟨v2, rfl, hown, hgo⟩
    have hconv := hown.conv
    have hfin2 := hfin.trans ((hgo.below (Nat.le_refl _) (fun k hk => by simp [Value.ownBlock] at hk)).mono hfin.size)
    rw [List.nil_append] at hconv
    clear HX1 hown hgo
    go_wp2
    go_ret
    exact ⟨rfl, hfin2⟩
  · rw [if_neg h0]
    have HH := Hid.mk' h0
    generalize checkM gd t = q at *
    generalize strL t.s = S at *
    generalize t.l.length = nl at *
    generalize t.m.length = nm at *
    generalize t.k = kk at *
    clear hv hv0 hg h0
    go_enter Tryz.func17, Tryz.ntmps17
    go_wp2_with fail
    refine HC.out.mono ?_
    rintro e w1 ⟨vv, rfl, hsay, hb1⟩
    obtain ⟨bk, rfl⟩ : ∃ bk, vv = .iface 53 (.pointer (some ⟨bk, 0, none⟩)) := by
      rcases hsay with h | h
      · exact absurd (congrArg Prod.snd h.1) HH.out
      · obtain ⟨bk, -, e, -, -⟩ := h.2
        exact ⟨bk, e⟩
    obtain ⟨-, hfin⟩ := HE.out _ hb1
    clear hsay HC HE e0 e1 e2 e3
    go_wp2
    go_ret
    exact ⟨rfl, hfin⟩
end Go.Proofs.YtjjoedkigjekcaaGreatDoor

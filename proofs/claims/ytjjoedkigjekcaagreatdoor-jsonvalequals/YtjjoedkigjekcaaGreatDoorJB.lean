/-
  What is proved here: what the reference's Text answers at any right value.
-/
import Derived.Test.YtjjoedkigjekcaaGreatDoorJA
import Derived.Test.YtjjoedkigjekcaaGreatDoorJ7
import Derived.Deep.RegionHeld3
namespace Go.Proofs.YtjjoedkigjekcaaGreatDoor
open Go.RowKit

theorem quoteM_len (s : List UInt8) : (quoteM s).length ≤ 6 * s.length + 2 := by
  have := quotes_len s
  unfold quoteM
  simp only [List.length_cons, List.length_append, List.length_nil]
  omega
theorem commaL_len (l : List J) (ih : ∀ t ∈ l, (textM t).length + 4 ≤ 14 * weight t) : (commaL (l.map textM)).length ≤ 14 * (l.map weight).sum := by
  unfold commaL
  induction l with
  | nil => simp
  | cons t l jh =>
    have h1 := ih t (by simp)
    have h2 := jh (fun x hx => ih x (by simp [hx]))
    rw [List.map_cons, List.flatMap_cons, List.length_append, List.length_cons, List.map_cons, List.sum_cons]; omega
theorem commaM_len (m : List (List UInt8 × J)) (ih : ∀ x ∈ m, (textM x.2).length + 4 ≤ 14 * weight x.2) : (commaM (m.map fun x => (x.1, textM x.2))).length ≤ 14 * (m.map fun x => x.1.length + weight x.2).sum := by
  unfold commaM
  induction m with
  | nil => simp
  | cons x m jh =>
    have h1 := ih x (by simp)
    have h2 := jh (fun x hx => ih x (by simp [hx]))
    have h3 := quoteM_len x.1
    simp only [List.map_cons, List.flatMap_cons, List.length_append, List.length_cons, List.sum_cons]; omega
theorem text_len : ∀ t : J, (textM t).length + 4 ≤ 14 * weight t := by
  refine J.ind ?_
  intro k s l m ihl ihm
  have h1 := commaL_len l ihl
  have h2 := commaM_len m ihm
  have h3 := quoteM_len s
  have hl : ∀ x : List UInt8, x.tail.length ≤ x.length := fun x => by rw [List.length_tail]; omega
  have h4 := hl (commaL (l.map textM) ++ commaM (m.map fun x => (x.1, textM x.2)))
  rw [List.length_append] at h4
  rw [textM_mk, weight_mk]
  unfold textF
  repeat' split
  all_goals (try simp only [List.length_cons, List.length_nil, List.length_append]); omega
theorem commaL_at {l : List J} {j : Nat} {t : J} (h : l[j]? = some t) : commaL ((l.take (j + 1)).map textM) = commaL ((l.take j).map textM) ++ 44 :: textM t := by
  rw [List.take_add_one, h]
  simp [commaL]
theorem commaM_at {m : List (List UInt8 × J)} {j : Nat} {x : List UInt8 × J} (h : m[j]? = some x) : commaM ((m.take (j + 1)).map fun x => (x.1, textM x.2)) = commaM ((m.take j).map fun x => (x.1, textM x.2)) ++ 44 :: (quoteM x.1 ++ 58 :: textM x.2) := by
  rw [List.take_add_one, h]
  simp [commaM]
theorem sum_take {α : Type} (f : α → Nat) (l : List α) (j : Nat) : ((l.take j).map f).sum ≤ (l.map f).sum := by
  have : l.map f = (l.take j).map f ++ (l.drop j).map f := by rw [← List.map_append, List.take_append_drop]
  rw [this, List.sum_append]; omega
theorem word0 (W : World) : Sem.run Tryz.prog (Instr.index 62 (.agg #[.string ⟨#[110, 117, 108, 108]⟩, .string ⟨#[102, 97, 108, 115, 101]⟩, .string ⟨#[116, 114, 117, 101]⟩]) (.int .i64 0)) W = .ok (.string ⟨#[110, 117, 108, 108]⟩) W := by kernel_rfl
theorem word1 (W : World) : Sem.run Tryz.prog (Instr.index 62 (.agg #[.string ⟨#[110, 117, 108, 108]⟩, .string ⟨#[102, 97, 108, 115, 101]⟩, .string ⟨#[116, 114, 117, 101]⟩]) (.int .i64 1)) W = .ok (.string ⟨#[102, 97, 108, 115, 101]⟩) W := by kernel_rfl
theorem word2 (W : World) : Sem.run Tryz.prog (Instr.index 62 (.agg #[.string ⟨#[110, 117, 108, 108]⟩, .string ⟨#[102, 97, 108, 115, 101]⟩, .string ⟨#[116, 114, 117, 101]⟩]) (.int .i64 2)) W = .ok (.string ⟨#[116, 114, 117, 101]⟩) W := by kernel_rfl
set_option maxRecDepth 20000 in
set_option maxHeartbeats 8000000 in
theorem refText_any : ∀ t : J, Fine t → weight t ≤ 4000 → ∀ (cs : List Value) (w : World), VJ w t cs →
    Calls Tryz.prog 16 #[.agg cs.toArray] w fun e w' => e = .returned (.string (strL (textM t))) ∧ Below w.heap.size w w' := by
  refine J.ind ?_
  intro k s l m ihl ihm hfine hwt cs w hv
  obtain ⟨a, ca, b, cb, rfl, hL, hM⟩ := (VJ_mk ..).1 hv
  obtain ⟨hs1, hs2, hs3, hs4, hs5⟩ := weight_parts hwt
  obtain ⟨⟨hk, hf1, hf2, hf3, hf4⟩, hFL, hFM⟩ := (Fine_mk ..).1 hfine
  obtain ⟨W0, hW0, hsz, hb0, e0, e1, e2, e3⟩ := val_box w (.int .i64 k) (.string (strL s)) (.slice a l.length ca) (.slice b m.length cb)
  have HQS : Hid (∀ W, _) := fun W => refQuote_any s W hs1
  have hss : (strL s).size = s.length := rfl
  have HST : Hid (k = 3 → strL s = strL (textM (.mk k s l m))) := fun h => by rw [textM_mk, h]; rfl
  have HSQ : Hid (k = 4 → strL (quoteM s) = strL (textM (.mk k s l m))) := fun h => by rw [textM_mk, h]; rfl
  have HS0 : Hid (k = 0 → (⟨#[110, 117, 108, 108]⟩ : ByteArray) = strL (textM (.mk k s l m))) := fun h => by rw [textM_mk, h]; rfl
  have HS1 : Hid (k = 1 → (⟨#[102, 97, 108, 115, 101]⟩ : ByteArray) = strL (textM (.mk k s l m))) := fun h => by rw [textM_mk, h]; rfl
  have HS2 : Hid (k = 2 → (⟨#[116, 114, 117, 101]⟩ : ByteArray) = strL (textM (.mk k s l m))) := fun h => by rw [textM_mk, h]; rfl
  obtain ⟨C, hC⟩ : ∃ C, commaL (l.map textM) ++ commaM (m.map fun x => (x.1, textM x.2)) = C := ⟨_, rfl⟩
  have HS5 : Hid (k = 5 → strL (91 :: (C.tail ++ [93])) = strL (textM (.mk k s l m))) := fun h => by rw [textM_mk, h, ← hC]; rfl
  have HS6 : Hid (k = 6 → strL (123 :: (C.tail ++ [125])) = strL (textM (.mk k s l m))) := fun h => by rw [textM_mk, h, ← hC]; rfl
  obtain ⟨R, hR⟩ : ∃ R, strL (textM (.mk k s l m)) = R := ⟨_, rfl⟩
  rw [hR] at HST HSQ HS0 HS1 HS2 HS5 HS6 ⊢
  have hCl : C.length ≤ 56000 := by
    have h1 := commaL_len l (fun t _ => text_len t)
    have h2 := commaM_len m (fun x _ => text_len x.2)
    rw [weight_mk] at hwt
    rw [← hC, List.length_append]; omega
  have HCL : Hid (∀ j, (commaL ((l.take j).map textM)).length ≤ 56000) := fun j => by
    have h1 := commaL_len (l.take j) (fun t _ => text_len t)
    have h2 := sum_take weight l j
    rw [weight_mk] at hwt; omega
  have HCM : Hid (∀ j, (commaL (l.map textM) ++ commaM ((m.take j).map fun x => (x.1, textM x.2))).length ≤ 56000) := fun j => by
    have h1 := commaM_len (m.take j) (fun x _ => text_len x.2)
    have h2 := sum_take (fun x : List UInt8 × J => x.1.length + weight x.2) m j
    have h3 := commaL_len l (fun t _ => text_len t)
    rw [weight_mk] at hwt
    rw [List.length_append]; omega
  have HCC := Hid.mk' hC
  have HLL : Hid (∀ (j : Nat) (t : J), l[j]? = some t → (textM t).length ≤ 56000 ∧ ∃ ba oa c0 c1 c2 c3, a = some ⟨ba, oa, none⟩ ∧ ∀ W, Below w.heap.size w W → (W.cell? ⟨ba, oa + j * 4, none⟩ = some c0 ∧ W.cell? ⟨ba, oa + j * 4 + 1, none⟩ = some c1 ∧ W.cell? ⟨ba, oa + j * 4 + 2, none⟩ = some c2 ∧ W.cell? ⟨ba, oa + j * 4 + 3, none⟩ = some c3) ∧ Calls Tryz.prog 16 #[.agg #[c0, c1, c2, c3]] W fun e w' => e = .returned (.string (strL (textM t))) ∧ Below W.heap.size W w') := fun j t hj => by
    obtain ⟨ba, oa, c0, c1, c2, c3, e, h⟩ := elem_at hL hj
    have hm := List.mem_of_getElem? hj
    exact ⟨by have := text_len t; have := hs4 t hm; omega, ba, oa, c0, c1, c2, c3, e, fun W hb => ⟨(h W hb).1, ihl t hm (hFL t hm) (hs4 t hm) _ W (h W hb).2⟩⟩
  have HMM : Hid (∀ (j : Nat) (x : List UInt8 × J), m[j]? = some x → ((textM x.2).length ≤ 56000 ∧ (quoteM x.1).length ≤ 56000 ∧ x.1.length ≤ 4000) ∧ ∃ bb ob c0 c1 c2 c3, b = some ⟨bb, ob, none⟩ ∧ ∀ W, Below w.heap.size w W → (W.cell? ⟨bb, ob + j * 5, none⟩ = some (.string (strL x.1)) ∧ W.cell? ⟨bb, ob + j * 5 + 1, none⟩ = some c0 ∧ W.cell? ⟨bb, ob + j * 5 + 2, none⟩ = some c1 ∧ W.cell? ⟨bb, ob + j * 5 + 3, none⟩ = some c2 ∧ W.cell? ⟨bb, ob + j * 5 + 4, none⟩ = some c3) ∧ Calls Tryz.prog 16 #[.agg #[c0, c1, c2, c3]] W fun e w' => e = .returned (.string (strL (textM x.2))) ∧ Below W.heap.size W w') := fun j x hj => by
    obtain ⟨bb, ob, c0, c1, c2, c3, e, h⟩ := memb_at hM hj
    have hm := List.mem_of_getElem? hj
    have hw := hs5 x hm
    exact ⟨⟨by have := text_len x.2; omega, by have := quoteM_len x.1; omega, by omega⟩, bb, ob, c0, c1, c2, c3, e, fun W hb => ⟨(h W hb).1, ihm x hm (hFM x hm) (by omega) _ W (h W hb).2⟩⟩
  have HE : Hid (∀ W, Below W0.heap.size W0 W → (W.cell? ⟨w.heap.size, 0, none⟩ = some (.int .i64 k) ∧ W.cell? ⟨w.heap.size, 2, none⟩ = some (.slice a l.length ca) ∧ W.cell? ⟨w.heap.size, 3, none⟩ = some (.slice b m.length cb)) ∧ Below w.heap.size w W) := fun W hb =>
    ⟨⟨(hb.cell (lt_of_cell e0)).trans e0, (hb.cell (lt_of_cell e2)).trans e2, (hb.cell (lt_of_cell e3)).trans e3⟩, hb0.trans (hb.mono hb0.size)⟩
  have HT : Hid (∀ W W', Below W0.heap.size W0 W → Below W.heap.size W W' → Below W0.heap.size W0 W') := below_tr
  have hstart : Below W0.heap.size W0 W0 := Below.refl _ _
  generalize strL s = S at *
  clear hR hC ihl ihm hL hM hv hwt hs4 hs5 hfine hf1 hf2 hf3 hf4 hFL hFM
  have h56 : k = 0 ∨ k = 1 ∨ k = 2 ∨ k = 3 ∨ k = 4 ∨ ((k = 5 ∨ k = 6) ∧ (k == 3) = false ∧ (k == 4) = false ∧ decide (k ≤ 2) = false) := by
    rcases kinds hk with h | h | h | h | h | h | h
    all_goals simp [h]
  rcases h56 with h | h | h | h | h | ⟨h, h3, h4, h2⟩
  · have hX := HS0.out h
    subst h hX
    have hix := word0
    clear HQS HST HSQ HS0 HS1 HS2 HS5 HS6 HLL HMM HCL HCM HCC
    go_enter Tryz.func16, Tryz.ntmps16
    go_wp2
    go_ret
    exact ⟨rfl, hb0⟩
  · have hX := HS1.out h
    subst h hX
    have hix := word1
    clear HQS HST HSQ HS0 HS1 HS2 HS5 HS6 HLL HMM HCL HCM HCC
    go_enter Tryz.func16, Tryz.ntmps16
    go_wp2
    go_ret
    exact ⟨rfl, hb0⟩
  · have hX := HS2.out h
    subst h hX
    have hix := word2
    clear HQS HST HSQ HS0 HS1 HS2 HS5 HS6 HLL HMM HCL HCM HCC
    go_enter Tryz.func16, Tryz.ntmps16
    go_wp2
    go_ret
    exact ⟨rfl, hb0⟩
  · have hX := HST.out h
    subst h hX
    clear HQS HST HSQ HS0 HS1 HS2 HS5 HS6 HLL HMM HCL HCM HCC
    go_enter Tryz.func16, Tryz.ntmps16
    go_wp2
    go_ret
    exact ⟨rfl, hb0⟩
  · have hX := HSQ.out h
    have HQ := Hid.mk' (HQS.out W0)
    rw [hX] at HQ
    subst h
    clear HQS HST HSQ HS0 HS1 HS2 HS5 HS6 HLL HMM HCL HCM HCC hX
    go_enter Tryz.func16, Tryz.ntmps16
    go_wp2_with fail
    refine HQ.out.mono ?_
    rintro e w1 ⟨rfl, hb1⟩
    have hfin := hb0.trans (hb1.mono hb0.size)
    clear HQ
    go_wp2
    go_ret
    exact ⟨rfl, hfin⟩
  have HK := Hid.mk' h
  clear h HST HSQ HS0 HS1 HS2 HQS
  obtain ⟨d0, d2, d3⟩ := (HE.out W0 hstart).1
  go_enter Tryz.func16, Tryz.ntmps16
  go_wp2
  go_loopw [3, 4] (fun x3 x4 wr => ∃ (j : Nat) (X : ByteArray), x3 = .string X ∧ x4 = .int .i64 j ∧ j ≤ l.length ∧ X.size ≤ 56000 ∧ Hid (X = strL (commaL ((l.take j).map textM))) ∧ Below W0.heap.size W0 wr) (fun _ x4 _ => l.length - (intOf x4).toNat)
  case atStart => exact ⟨0, ⟨#[]⟩, rfl, rfl, Nat.zero_le _, by decide, Hid.mk' rfl, hstart⟩
  case round =>
    clear hstart
    obtain ⟨j, X, rfl, rfl, hj, hX, HX, hbr⟩ := hrel
    obtain ⟨⟨f0, f2, f3⟩, hfin⟩ := HE.out _ hbr
    by_cases hlt : j < l.length
    · obtain ⟨t, ht⟩ := get_lt hlt
      obtain ⟨htl, ba, oa, c0, c1, c2, c3, rfl, HL1⟩ := HLL.out j t ht
      obtain ⟨⟨g0, g1, g2, g3⟩, HXc⟩ := HL1 _ hfin
      have HX1 := Hid.mk' HXc
      have hTz : (strL (textM t)).size = (textM t).length := rfl
      obtain ⟨T, hT⟩ : ∃ T, strL (textM t) = T := ⟨_, rfl⟩
      have HX2 : Hid (X ++ ⟨#[44]⟩ ++ T = strL (commaL ((l.take (j + 1)).map textM))) := by
        show _ = _
        rw [HX.out, ← hT, commaL_at ht, ByteArray.append_assoc]
        exact (congrArg _ (strL_append [44] _)).trans (strL_append _ _)
      have hX2 : (X ++ ⟨#[44]⟩ ++ T).size ≤ 56000 := by rw [HX2.out, strL_size]; exact HCL.out (j + 1)
      rw [hT] at hTz HX1
      generalize textM t = tt at *
      clear HL1 HXc HLL HMM HCL HCM HCC HS5 HS6 HX ht hT
      go_wp2_with fail
      refine HX1.out.mono ?_
      rintro e w1 ⟨rfl, hb1⟩
      have hz1 := HT.out _ _ hbr hb1
      clear HX1 g0 g1 g2 g3 f0 f2 f3 hbr hb1 hfin
      go_wp2
      go_roundw
      case rel => exact ⟨j + 1, _, rfl, by go_num, by omega, hX2, HX2, hz1⟩
      case measure => simp [intOf]; omega
    · have HX2 : Hid (X = strL (commaL (l.map textM) ++ commaM ((m.take 0).map fun x => (x.1, textM x.2)))) := by
        show _ = _
        rw [HX.out, List.take_of_length_le (by omega)]
        simp [commaM]
      clear HX HLL HCL
      go_wp2
      go_loopw [3, 5] (fun x3 x5 wr => ∃ (j : Nat) (X : ByteArray), x3 = .string X ∧ x5 = .int .i64 j ∧ j ≤ m.length ∧ X.size ≤ 56000 ∧ Hid (X = strL (commaL (l.map textM) ++ commaM ((m.take j).map fun x => (x.1, textM x.2)))) ∧ Below W0.heap.size W0 wr) (fun _ x5 _ => m.length - (intOf x5).toNat)
      case atStart => exact ⟨0, X, rfl, rfl, Nat.zero_le _, hX, HX2, hbr⟩
      case round =>
        clear hX HX2 hbr hfin f0 f2 f3
        obtain ⟨j, X, rfl, rfl, hj, hX, HX, hbr⟩ := hrel
        obtain ⟨⟨f0, f2, f3⟩, hfin⟩ := HE.out _ hbr
        by_cases hlt : j < m.length
        · obtain ⟨x, ht⟩ := get_lt hlt
          obtain ⟨⟨htl, hql, hxl⟩, bb, ob, c0, c1, c2, c3, rfl, HL1⟩ := HMM.out j x ht
          have HQx : Hid (∀ W, Calls Tryz.prog 19 #[.string (strL x.1)] W fun e w' => e = .returned (.string (strL (quoteM x.1))) ∧ Below W.heap.size W w') := fun W => refQuote_any x.1 W hxl
          have HTx : Hid (∀ W, Below W0.heap.size W0 W → Calls Tryz.prog 16 #[.agg #[c0, c1, c2, c3]] W fun e w' => e = .returned (.string (strL (textM x.2))) ∧ Below W.heap.size W w') := fun W hb => (HL1 W (HE.out W hb).2).2
          have HXC : Hid (∀ W, Below W0.heap.size W0 W → (W.cell? ⟨w.heap.size, 3, none⟩ = some (.slice (some ⟨bb, ob, none⟩) m.length cb)) ∧ W.cell? ⟨bb, ob + j * 5, none⟩ = some (.string (strL x.1)) ∧ W.cell? ⟨bb, ob + j * 5 + 1, none⟩ = some c0 ∧ W.cell? ⟨bb, ob + j * 5 + 2, none⟩ = some c1 ∧ W.cell? ⟨bb, ob + j * 5 + 3, none⟩ = some c2 ∧ W.cell? ⟨bb, ob + j * 5 + 4, none⟩ = some c3) := fun W hb => ⟨(HE.out W hb).1.2.2, (HL1 W (HE.out W hb).2).1⟩
          have hTz : (strL (textM x.2)).size = (textM x.2).length := rfl
          have hQz : (strL (quoteM x.1)).size = (quoteM x.1).length := rfl
          obtain ⟨T, hT⟩ : ∃ T, strL (textM x.2) = T := ⟨_, rfl⟩
          obtain ⟨Q, hQ⟩ : ∃ Q, strL (quoteM x.1) = Q := ⟨_, rfl⟩
          have HX2 : Hid (X ++ ⟨#[44]⟩ ++ Q ++ ⟨#[58]⟩ ++ T = strL (commaL (l.map textM) ++ commaM ((m.take (j + 1)).map fun x => (x.1, textM x.2)))) := by
            show _ = _
            rw [HX.out, ← hT, ← hQ, commaM_at ht]
            show strL _ ++ strL [44] ++ strL _ ++ strL [58] ++ strL _ = _
            rw [strL_append, strL_append, strL_append, strL_append]
            simp
          have hX2 : (X ++ ⟨#[44]⟩ ++ Q ++ ⟨#[58]⟩ ++ T).size ≤ 56000 := by rw [HX2.out, strL_size]; exact HCM.out (j + 1)
          rw [hT] at hTz HTx
          rw [hQ] at hQz HQx
          generalize strL x.1 = NX at *
          have hTz' : T.size ≤ 56000 := by omega
          have hQz' : Q.size ≤ 56000 := by omega
          generalize textM x.2 = tt at *
          generalize quoteM x.1 = qq at *
          clear hTz hQz
          have hs1' : ¬ 9223372036854775807 < X.size + 1 := by omega
          have hs2' : ¬ 9223372036854775807 < X.size + 1 + Q.size := by omega
          have hs3' : ¬ 9223372036854775807 < X.size + 1 + Q.size + 1 := by omega
          have hs4' : ¬ 9223372036854775807 < X.size + 1 + Q.size + 1 + T.size := by omega
          have hbrd := hbr.drew
          clear HL1 HMM HCM HCC HS5 HS6 HX ht hT hQ
          go_wp2
          go_region_held3 (fun W' => (W'.cell? ⟨w.heap.size, 3, none⟩ = some (.slice (some ⟨bb, ob, none⟩) m.length cb)) ∧ W'.cell? ⟨bb, ob + j * 5, none⟩ = some (.string NX) ∧ W'.cell? ⟨bb, ob + j * 5 + 1, none⟩ = some c0 ∧ W'.cell? ⟨bb, ob + j * 5 + 2, none⟩ = some c1 ∧ W'.cell? ⟨bb, ob + j * 5 + 3, none⟩ = some c2 ∧ W'.cell? ⟨bb, ob + j * 5 + 4, none⟩ = some c3) (exact HXC.out _ (by assumption)) (first
              | (go_at_call 19; refine (HQx.out _).mono ?_; rintro e wQ ⟨rfl, hbQ⟩; have hzQ := HT.out _ _ (by assumption) hbQ)
              | (go_at_call 16; refine (HTx.out _ (by assumption)).mono ?_; rintro e wD ⟨rfl, hbD⟩; have hzD := HT.out _ _ (by assumption) hbD))
          clear HTx HQx HXC hbrd f0 f2 f3 hbr hbQ hzQ hbD hfin hs1' hs2' hs3' hs4'
          go_wp2
          go_roundw
          case rel =>
            have hrl : ∃ (j' : Nat) (X' : ByteArray), Value.string (X ++ ⟨#[44]⟩ ++ Q ++ ⟨#[58]⟩ ++ T) = .string X' ∧ Value.int .i64 ((j : Int) + 1) = .int .i64 j' ∧ j' ≤ m.length ∧ X'.size ≤ 56000 ∧ Hid (X' = strL (commaL (l.map textM) ++ commaM ((m.take j').map fun x => (x.1, textM x.2)))) ∧ Below W0.heap.size W0 wD := ⟨j + 1, _, rfl, by go_num, by omega, hX2, HX2, hzD⟩
            first | exact hrl | ((repeat apply Exists.intro); exact ⟨hrl, rfl⟩)
          case measure => simp [intOf]; omega
        · have hXC : X = strL C := by
            rw [HX.out, List.take_of_length_le (by omega), HCC.out]
          clear HX HMM HCM HCC
          rcases empty_cases C with hC0 | ⟨hC0, hCe⟩
          · subst hC0
            obtain rfl : X = ⟨#[]⟩ := hXC
            rcases HK.out with h | h
            · have hX := HS5.out h
              have hX : (⟨#[91, 93]⟩ : ByteArray) = R := hX
              subst h hX
              clear HS5 HS6 HK
              go_wp2
              go_ret
              exact ⟨rfl, hfin⟩
            · have hX := HS6.out h
              have hX : (⟨#[123, 125]⟩ : ByteArray) = R := hX
              subst h hX
              clear HS5 HS6 HK
              go_wp2
              go_ret
              exact ⟨rfl, hfin⟩
          · have hXe : X.toList.isEmpty = false := by rw [hXC]; exact hCe
            have hX0 : 0 < X.size := by
              rw [hXC, strL_size]
              exact List.length_pos_iff.2 hC0
            have hX0' : (1 : Int) ≤ (X.size : Int) := by omega
            have hcut : X.extract 1 X.size = strL C.tail := by
              apply ByteArray.ext
              apply Array.ext'
              rw [cut_toList, hXC, strL_toList, List.drop_one]
              rfl
            obtain ⟨Y, hY⟩ : ∃ Y, strL C.tail = Y := ⟨_, rfl⟩
            rw [hY] at hcut
            have hYz : Y.size ≤ 56000 := by rw [← hY, strL_size, List.length_tail]; omega
            rcases HK.out with h | h
            · have hX := HS5.out h
              have hX : (⟨#[91]⟩ : ByteArray) ++ Y ++ ⟨#[93]⟩ = R := by
                rw [← hX, ← hY]
                show strL [91] ++ strL _ ++ strL [93] = _
                rw [strL_append, strL_append]
                rfl
              subst h hX
              clear HS5 HS6 HK hY hXC
              go_wp2
              go_ret
              exact ⟨rfl, hfin⟩
            · have hX := HS6.out h
              have hX : (⟨#[123]⟩ : ByteArray) ++ Y ++ ⟨#[125]⟩ = R := by
                rw [← hX, ← hY]
                show strL [123] ++ strL _ ++ strL [125] = _
                rw [strL_append, strL_append]
                rfl
              subst h hX
              clear HS5 HS6 HK hY hXC
              go_wp2
              go_ret
              exact ⟨rfl, hfin⟩
end Go.Proofs.YtjjoedkigjekcaaGreatDoor

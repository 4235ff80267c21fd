/-
  What is proved here: what the laws of layer 2's awake answers; that PctUnescapes answers true at every text.
-/
import Derived.Test.YteflghhpdikidaaDoorRefU1
namespace Go.Proofs.YteflghhpdikidaaDoor
open Go.RowKit

theorem un_code0 (l : List UInt8) (k : Nat) : (Pct.un l k).2.2 = 0 ∨ (Pct.un l k).2.2 = 1 ∨ (Pct.un l k).2.2 = 2 := Pct.un_code l.length l k (Nat.le_refl _)
theorem un_cases (l : List UInt8) : (∃ m, Pct.un l 0 = (m, 0, 0)) ∨ (∃ k c, Pct.un l 0 = ([], k, c) ∧ (c = 1 ∨ c = 2)) := by
  obtain ⟨h1, h2⟩ := Pct.un_shape l 0
  rcases un_code0 l 0 with h | h
  · exact .inl ⟨_, Prod.ext rfl (Prod.ext (h1 h) h)⟩
  · exact .inr ⟨_, _, Prod.ext (h2 (by omega)) rfl, h⟩

theorem refUn_c (s : ByteArray) (w : World) (hs : s.size ≤ 2147483648) (m : List (Nat × UInt8)) (k c : Nat) (hun : Pct.un s.data.toList 0 = (m, k, c)) :
    Calls Tryd.prog 11 #[.string s] w fun e w' => ∃ v, e = .returned (.agg #[.string (Pct.str m), v, .int .i64 k, .int .i64 c]) ∧ Nums .i64 w' v (m.map fun x => (x.1 : Int)) ∧ Below w.heap.size w w' := refUn_any s w hs _ hun
theorem refUn_e (s : ByteArray) (w : World) (hs : s.size ≤ 2147483648) (k c : Nat) (hun : Pct.un s.data.toList 0 = ([], k, c)) :
    Calls Tryd.prog 11 #[.string s] w fun e w' => ∃ va vc, e = .returned (.agg #[.string ⟨#[]⟩, .slice va 0 vc, .int .i64 k, .int .i64 c]) ∧ Below w.heap.size w w' := by
  refine (refUn_any s w hs _ hun).mono ?_
  rintro e w' ⟨v, rfl, ⟨va, vc, rfl, -⟩, hb⟩
  exact ⟨va, vc, rfl, hb⟩
theorem un_len (l : List UInt8) : ∀ k, (Pct.un l k).1.length ≤ l.length := by
  have : ∀ n (l : List UInt8) k, l.length ≤ n → (Pct.un l k).1.length ≤ l.length := by
    intro n
    induction n with
    | zero => intro l k h; obtain rfl : l = [] := List.eq_nil_of_length_eq_zero (by omega); simp [Pct.un_nil]
    | succ n ih =>
      intro l k h
      match l with
      | [] => simp [Pct.un_nil]
      | c :: t =>
        simp only [List.length_cons] at h ⊢
        have h1 := ih t (k + 1) (by omega)
        have h2 := ih (t.drop 2) (k + 3) (by simp; omega)
        simp only [List.length_drop] at h2
        rw [Pct.un_cons]
        unfold Pct.glue
        (repeat' split) <;> simp <;> omega
  exact fun k => this _ l k (Nat.le_refl _)
theorem un_ex1 : Pct.un [97, 37, 50, 70, 98] 0 = ([(0, 97), (1, 47), (4, 98)], 0, 0) := by decide
theorem un_ex2 : Pct.un [37, 52] 0 = ([], 0, 2) := by decide

set_option maxHeartbeats 1000000 in
theorem awake2_any (w : World) (p : Nat → Addr) (hg : Gl p w) :
    Calls Tryd.prog 9 #[] w fun e w' => e = .returned (.bool true) ∧ Below w.heap.size w w' := by
  have HE : Hid (Calls Tryd.prog 10 #[.string ⟨#[97, 37, 50, 70, 98]⟩] w fun e w' => e = .returned (.tuple #[.string ⟨#[97, 47, 98]⟩, .nilIface]) ∧ Below w.heap.size w w') := unescape_ok ⟨#[97, 37, 50, 70, 98]⟩ w (by decide) _ un_ex1
  have HD : Hid (∀ w1, Below w.heap.size w w1 → _) := fun w1 hb => unescape_err ⟨#[37, 52]⟩ w1 p (hg.below hb) (by decide) 0 2 un_ex2 (by decide)
  have HI : Hid (∀ w1 v B, Below w.heap.size w w1 → Flt w1 v B 0 (p 2) → _) := fun w1 v B hb hf => lawIs_fault v B 0 2 w1 p (hg.below hb) (by decide) hf
  clear hg
  go_enter Tryd.func9, Tryd.ntmps9
  go_wp2_with fail
  refine HE.out.mono ?_
  rintro e w1 ⟨rfl, hb1⟩
  go_wp2_with fail
  refine (HD.out w1 hb1).mono ?_
  rintro e w2 ⟨b, rfl, hf, hb2⟩
  have hb3 := hb1.trans (hb2.mono hb1.size)
  have HI2 := Hid.mk' (HI.out w2 _ _ hb3 hf)
  clear hf
  go_wp2_with (go_at_call 13; refine HI2.out.mono ?_; rintro e w3 ⟨rfl, hb4⟩)
  go_ret
  exact ⟨rfl, hb3.trans (hb4.mono hb3.size)⟩

theorem Flt.below {w w' : World} {v : Value} {B : Nat} {a : Int} {p : Addr} (h : Flt w v B a p) (hb : Below w.heap.size w w') : Flt w' v B a p := by
  obtain ⟨b, h1, h2, h3, h4⟩ := h
  exact ⟨b, h1, h2, (hb.cell (p := ⟨b, 0, none⟩) (lt_of_cell h3)).trans h3, (hb.cell (p := ⟨b, 1, none⟩) (lt_of_cell h4)).trans h4⟩

set_option maxRecDepth 20000 in
set_option maxHeartbeats 2000000 in
theorem unescapes_any (w : World) (p : Nat → Addr) (hg : Gl p w) (s : ByteArray) (hs : s.size ≤ maxLen) :
    Calls Tryd.prog 3 #[.string s] w fun e w' => e = .returned (.bool true) ∧ Below w.heap.size w w' := by
  have HW := Hid.mk' (awake2_any w p hg)
  unfold maxLen at hs
  by_cases hl : 60 < s.size
  · clear hg
    go_enter Tryd.func3, Tryd.ntmps3
    go_wp2_with (go_at_call 9; refine HW.out.mono ?_; rintro e w1 ⟨rfl, hb1⟩)
    go_ret
    exact ⟨rfl, hb1⟩
  · have hs2 : s.size ≤ 2147483648 := by omega
    rcases un_cases s.data.toList with ⟨m, hu⟩ | ⟨k, c, hu, hc⟩
    · have hml : Hid (m.length ≤ 60) := by
        show _ ≤ _
        have := un_len s.data.toList 0
        rw [hu] at this
        have e : s.data.toList.length = s.size := rfl
        simp only [] at this
        omega
      have HU : Hid (∀ w1, _) := fun w1 => unescape_ok s w1 hs2 m hu
      have HR : Hid (∀ w1, _) := fun w1 => refUn_c s w1 hs2 m 0 0 hu
      have HP : Hid (∀ w1, _) := fun w1 => places_ok s w1 hs2 m hu
      have hnl : (m.map fun x => (x.1 : Int)).length ≤ 60 := by rw [List.length_map]; exact hml.out
      generalize (m.map fun x => (x.1 : Int)) = ns at HR HP hnl
      generalize Pct.str m = tt at HR HU
      clear hg hu
      go_enter Tryd.func3, Tryd.ntmps3
      go_wp2_with fail
      refine HW.out.mono ?_
      rintro e w1 ⟨rfl, hb1⟩
      go_wp2_with fail
      refine (HU.out w1).mono ?_
      rintro e w2 ⟨rfl, hb2⟩
      go_wp2_with fail
      refine (HR.out w2).mono ?_
      rintro e w3 ⟨v, rfl, hn, hb3⟩
      obtain ⟨va, vc, rfl, hn⟩ := hn
      have HN := Hid.mk' hn
      clear hn
      go_wp2_with fail
      refine (HP.out _).mono ?_
      rintro e w4 ⟨u, rfl, hn, hb4⟩
      obtain ⟨ua, uc, rfl, hn⟩ := hn
      have HN2 := Hid.mk' hn
      clear hn
      have d0 := (hb4.cell (p := ⟨w3.heap.size, 0, none⟩) (by simp)).trans (World.cell?_alloc_new ..)
      have d1 := (hb4.cell (p := ⟨w3.heap.size, 1, none⟩) (by simp)).trans (World.cell?_alloc_new ..)
      have d2 := (hb4.cell (p := ⟨w3.heap.size, 2, none⟩) (by simp)).trans (World.cell?_alloc_new ..)
      have d3 := (hb4.cell (p := ⟨w3.heap.size, 3, none⟩) (by simp)).trans (World.cell?_alloc_new ..)
      simp at d0 d1 d2 d3
      have HB : Hid (Below w.heap.size w w4 ∧ Below w3.heap.size w3 w4) := by
        have h1 := hb1.trans (hb2.mono hb1.size)
        have h2 := h1.trans (hb3.mono h1.size)
        have h3 := (((Below.refl _ w3).alloc (Nat.le_refl _) _).trans (hb4.mono (by simp)) : Below w3.heap.size w3 w4)
        exact ⟨h2.trans (h3.mono h2.size), h3⟩
      clear hb1 hb2 hb3 hb4
      go_wp2_with (go_at_call 13; refine (lawIs_none _ _).mono ?_; rintro e w5 ⟨rfl, rfl⟩)
      go_loopw [7] (fun i wr => ∃ k : Nat, k ≤ ns.length ∧ i = .int .i64 k ∧ Below w4.heap.size w4 wr) (fun i _ => ns.length - (intOf i).toNat)
      case atStart => exact ⟨0, Nat.zero_le _, rfl, Below.refl _ _⟩
      case round =>
        obtain ⟨k, hk, rfl, hbel⟩ := hrel
        by_cases hlt : k < ns.length
        · obtain ⟨ba, oa, rfl, ca0⟩ := HN.out k hlt
          obtain ⟨bb, ob, rfl, cb0⟩ := HN2.out k hlt
          have ca1 := (HB.out.2.cell (p := ⟨ba, oa + k, none⟩) (lt_of_cell ca0)).trans ca0
          have hca := (hbel.cell (p := ⟨ba, oa + k, none⟩) (lt_of_cell ca1)).trans ca1
          have hcb := (hbel.cell (p := ⟨bb, ob + k, none⟩) (lt_of_cell cb0)).trans cb0
          have e1 := (hbel.cell (p := ⟨w3.heap.size, 1, none⟩) (lt_of_cell d1)).trans d1
          clear ca0 cb0 ca1
          generalize ns.getD k 0 = r at hca hcb
          go_wp2
          go_region
          go_wp2
          go_roundw
          case rel => exact ⟨k + 1, by omega, by go_num, hbel.drew⟩
          case measure => simp [intOf]; omega
        · go_wp2
          go_ret
          exact ⟨rfl, HB.out.1.trans (hbel.mono HB.out.1.size)⟩
    · have HU : Hid (∀ w1, Below w.heap.size w w1 → _) := fun w1 hb => unescape_err s w1 p (hg.below hb) hs2 k c hu (by omega)
      have HR : Hid (∀ w1, _) := fun w1 => refUn_e s w1 hs2 k c hu
      have HP : Hid (∀ w1, Below w.heap.size w w1 → _) := fun w1 hb => places_err s w1 p (hg.below hb) hs2 k c hu (by omega)
      have HI : Hid (∀ w1 v B, Below w.heap.size w w1 → Flt w1 v B k (p c) → _) := fun w1 v B hb hf => lawIs_fault v B k c w1 p (hg.below hb) (by omega) hf
      clear hg hu
      go_enter Tryd.func3, Tryd.ntmps3
      go_wp2_with fail
      refine HW.out.mono ?_
      rintro e w1 ⟨rfl, hb1⟩
      go_wp2_with fail
      refine (HU.out w1 hb1).mono ?_
      rintro e w2 ⟨b, rfl, hf, hb2⟩
      go_wp2_with fail
      refine (HR.out w2).mono ?_
      rintro e w3 ⟨va, vc, rfl, hb3⟩
      have hb23 := hb1.trans (hb2.mono hb1.size)
      have hb33 := hb23.trans (hb3.mono hb23.size)
      have hb34 := fun o => hb33.alloc hb33.size o
      have HF := Hid.mk' (hf.below hb3)
      clear hf
      go_wp2_with fail
      refine (HP.out _ (hb34 _)).mono ?_
      rintro e w4 ⟨rfl, hb4⟩
      have d0 := (hb4.cell (p := ⟨w3.heap.size, 0, none⟩) (by simp)).trans (World.cell?_alloc_new ..)
      have d1 := (hb4.cell (p := ⟨w3.heap.size, 1, none⟩) (by simp)).trans (World.cell?_alloc_new ..)
      have d2 := (hb4.cell (p := ⟨w3.heap.size, 2, none⟩) (by simp)).trans (World.cell?_alloc_new ..)
      have d3 := (hb4.cell (p := ⟨w3.heap.size, 3, none⟩) (by simp)).trans (World.cell?_alloc_new ..)
      simp at d0 d1 d2 d3
      have h3 := (((Below.refl _ w3).alloc (Nat.le_refl _) _).trans (hb4.mono (by simp)) : Below w3.heap.size w3 w4)
      have hb44 := hb33.trans (h3.mono hb33.size)
      have HI2 := Hid.mk' (HI.out w4 _ _ hb44 (HF.out.below h3))
      clear hb1 hb2 hb3 hb4 h3 hb34 hb23 hb33
      go_wp2_with (go_at_call 13; refine HI2.out.mono ?_; rintro e w5 ⟨rfl, hb5⟩; have d1' := (hb5.cell (p := ⟨w3.heap.size, 1, none⟩) (lt_of_cell d1)).trans d1)
      refine wp_loop_rounds 1 ?_
      rw [rounds_succ]
      go_wp2
      go_ret
      exact ⟨rfl, hb44.trans (hb5.mono hb44.size)⟩
end Go.Proofs.YteflghhpdikidaaDoor

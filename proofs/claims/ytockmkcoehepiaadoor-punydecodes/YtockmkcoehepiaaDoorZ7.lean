/-
  What is proved here: what puny's order answers.
-/
import Derived.Test.YtockmkcoehepiaaDoorZ6
import Derived.Test.YtockmkcoehepiaaDoorS6
import Derived.Shelf.Abstract
namespace Go.Proofs.YtockmkcoehepiaaDoor
open Go.RowKit Go.Sort Go.Shelf

theorem below_sorted {klf : Int → Int} {w0 w w2 : World} {B g fr : Nat} {L' : List Int} (hb : Below B w0 w) (hg : B ≤ g) (hgs : g < w.heap.size) (h : SL klf w g fr L' w2) : Below B w0 w2 := by
  obtain ⟨m, os, rfl⟩ := h
  refine hb.trans ⟨rfl, rfl, rfl, by simp [sortWorld, grow, putRow, mapBlock, Sort.ahead], fun k hk => ?_⟩
  show ((w.heap.modify g (onCells (putCells (encI klf) fr L'.toArray))) ++ os)[k]? = w.heap[k]?
  rw [Array.getElem?_append_left (by simp; omega), Array.getElem?_modify, if_neg (by omega)]
/-- what is stable-sorted keeps alike ones as they stood -/
theorem Bub.keeps {c : Int → Int} {a b : Nat} {l l' : List Int} (h : Bub c a b l l') (hp : l.Pairwise (fun x y => c x = c y → x < y)) : l'.Pairwise (fun x y => c x = c y → x < y) := by
  induction h with
  | refl l => exact hp
  | step P Q x y l' ha hb hc _ ih =>
    apply ih
    rw [List.pairwise_append, List.pairwise_cons, List.pairwise_cons] at *
    obtain ⟨h1, ⟨h2, h3, h4⟩, h5⟩ := hp
    refine ⟨h1, ⟨?_, ?_, h4⟩, ?_⟩
    · intro z hz
      rcases List.mem_cons.1 hz with rfl | hz
      · intro e; omega
      · exact h3 z hz
    · intro z hz
      exact h2 z (by simp [hz])
    · intro p hp q hq
      refine h5 p hp q ?_
      simp at hq ⊢
      rcases hq with h | h | h <;> simp [h]
theorem srt_pairwise {c : Int → Int} {l : List Int} (h : Srt c 0 l.length l) : l.Pairwise (fun x y => c x ≤ c y) := by
  rw [List.pairwise_iff_getElem]
  intro i j hi hj hij
  have := h i j (Nat.zero_le _) hij hj
  simpa [List.getD, hi, hj] using this
/-- a number brought among those of a list's places -/
def klM (l : List Int) (x : Int) : Int := amongM x 0 ((l.length : Int) - 1)
theorem kl_bd {l : List Int} (h : 0 < l.length) (x : Int) : 0 ≤ klM l x ∧ klM l x < l.length := by
  have := among_bd x 0 ((l.length : Int) - 1) (by omega)
  unfold klM
  omega
theorem kl_in {l : List Int} {x : Int} (h0 : 0 ≤ x) (h1 : x < l.length) : klM l x = x := within_mid h0 (by omega)
/-- what the stable sort leaves is the order in which runes are put in -/
theorem sorted_is {l L' : List Int} (hb : Bub (fun x => rn l (klM l x)) 0 (idxM l).length (idxM l) L') (hs : Srt (fun x => rn l (klM l x)) 0 (idxM l).length L') : L' = ordM l := by
  have hp : L'.Perm (idxM l) := hb.perm
  have hin : ∀ x ∈ L', klM l x = x := fun x hx => by
    have := idx_mem.1 (hp.mem_iff.1 hx)
    exact kl_in this.1 this.2.1
  have h1 := hb.keeps ((idx_up l).imp (S := fun x y => rn l (klM l x) = rn l (klM l y) → x < y) (fun h _ => h))
  rw [← hb.length] at hs
  have h2 := srt_pairwise hs
  refine lex_of hp ?_ ?_
  · refine List.Pairwise.imp_of_mem ?_ h1
    intro a b ha hb' h
    simpa [hin a ha, hin b hb'] using h
  · refine List.Pairwise.imp_of_mem ?_ h2
    intro a b ha hb' h
    simpa [hin a ha, hin b hb'] using h
/-- the numbers of the first runes that aren't plain -/
def idxK (l : List Int) (k : Nat) : List Int := ((List.range k).filter (fun j => decide (128 ≤ l.getD j 0))).map Int.ofNat
theorem idxK_all (l : List Int) : idxK l l.length = idxM l := rfl
theorem idxK_next (l : List Int) (k : Nat) : idxK l (k + 1) = if 128 ≤ l.getD k 0 then idxK l k ++ [(k : Int)] else idxK l k := by
  unfold idxK
  rw [List.range_succ, List.filter_append, List.map_append]
  by_cases h : 128 ≤ l.getD k 0
  · rw [if_pos h, List.filter_cons, if_pos (by simpa using h)]; rfl
  · rw [if_neg h, List.filter_cons, if_neg (by simpa using h)]; simp
theorem idxK_le (l : List Int) (k : Nat) : (idxK l k).length ≤ k := by
  unfold idxK
  rw [List.length_map]
  exact Nat.le_trans (List.length_filter_le _ _) (by simp)
theorem Tryd.infoInt : (Tryd.prog.info? 3).map (fun i => (i.zero, i.size, i.bytes)) = some (some (.int .i64 0), 1, 8) := by kernel_rfl
set_option maxHeartbeats 1000000 in
theorem insertion_none (a : Option Addr) (cap : Nat) (f : Value) (w : World) :
    Calls Tryd.prog 152 #[.slice a 0 cap, .int .i64 0, .int .i64 0, f] w fun e w' => e = .returned (.tuple #[]) ∧ w = w' := by
  go_enter Tryd.func152, Tryd.ntmps152
  go_wp2
  refine wp_loop_rounds 1 ?_
  rw [rounds_succ]
  go_wp2
  go_end0
  exact ⟨rfl, rfl⟩
set_option maxHeartbeats 1000000 in
theorem stable_none (a : Option Addr) (cap : Nat) (f : Value) (w : World) :
    Calls Tryd.prog 129 #[.slice a 0 cap, .int .i64 0, f] w fun e w' => e = .returned (.tuple #[]) ∧ w = w' := by
  have H := Hid.mk' (insertion_none a cap f w)
  go_enter Tryd.func129, Tryd.ntmps129
  go_wp2
  refine wp_loop_rounds 1 ?_
  rw [rounds_succ]
  go_wp2_with fail
  refine H.out.mono ?_
  rintro e w1 ⟨rfl, rfl⟩
  go_wp2
  refine wp_loop_rounds 1 ?_
  rw [rounds_succ]
  go_wp2
  go_end0
  exact ⟨rfl, rfl⟩
set_option maxHeartbeats 1000000 in
theorem sortStable_none (a : Option Addr) (cap : Nat) (f : Value) (w : World) :
    Calls Tryd.prog 99 #[.slice a 0 cap, f] w fun e w' => e = .returned (.tuple #[]) ∧ w = w' := by
  have H := Hid.mk' (stable_none a cap f w)
  go_enter Tryd.func99, Tryd.ntmps99
  go_wp2_with fail
  refine H.out.mono ?_
  rintro e w1 ⟨rfl, rfl⟩
  go_wp2
  go_end0
  exact ⟨rfl, rfl⟩
/-- a slice of numbers of one's own -/
def Ints (w : World) (B : Nat) (v : Value) (O : List Int) : Prop := ∃ a cap, v = .slice a O.length cap ∧ ∀ j, j < O.length → ∃ g, a = some ⟨g, 0, none⟩ ∧ B ≤ g ∧ w.cell? ⟨g, j, none⟩ = some (.int .i64 (O.getD j 0))
set_option maxRecDepth 100000 in
set_option maxHeartbeats 4000000 in
theorem order_any (a : Option Addr) (cap : Nat) (l : List Int) (w : World) (h : RunesC w a cap l) (hl : l.length ≤ 120) :
    Calls Tryd.prog 53 #[.slice a l.length cap] w fun e w' => ∃ v, e = .returned v ∧ Ints w' w.heap.size v (ordM l) ∧ Below w.heap.size w w' := by
  obtain ⟨i0, hi, hz0, hz1, hz2⟩ := info_parts Tryd.infoInt
  obtain ⟨W0, hW0⟩ : ∃ W0, w.alloc (.cells #[.slice a l.length cap] 24) = W0 := ⟨_, rfl⟩
  have hsz : W0.heap.size = w.heap.size + 1 := by rw [← hW0]; simp
  have hb0 : Below w.heap.size w W0 := by rw [← hW0]; exact (Below.refl _ _).alloc (Nat.le_refl _) _
  have e0 : W0.cell? ⟨w.heap.size, 0, none⟩ = some (.slice a l.length cap) := by rw [← hW0]; simp
  have hF : ∀ args w, (callFunc 100 args).run Tryd.prog w = .ok (.enter 100 args) w := enters_of Tryd.func100 (by kernel_rfl) rfl
  have HSORT : Hid (∀ (W : World) (v : Value), Below (w.heap.size + 1) W0 W → W.ownsRow (w.heap.size + 1) 3 1 v (idxM l).length ((idxM l).map (Value.int .i64)) → Calls Tryd.prog 99 #[v, .func (.func 100) #[] #[.pointer (some ⟨w.heap.size, 0, none⟩)]] W fun e w' => e = .returned (.tuple #[]) ∧ Ints w' w.heap.size v (ordM l) ∧ Below w.heap.size w w') := fun W v hb ho => by
    have hol : (ordM l).length = (idxM l).length := (ord_is l).1.length_eq
    rcases ho.2 with ⟨rfl, h0⟩ | ⟨g, cp, cur, rfl, hg0, hgc, hncap, -, -, -⟩
    · refine (sortStable_none none 0 _ W).mono ?_
      rintro e w' ⟨he, rfl⟩
      refine ⟨he, ⟨none, 0, by rw [hol, h0], fun j hj => by omega⟩, hb0.trans (hb.mono (Nat.le_succ _))⟩
    · have hgl : g < W.heap.size := (ho.lt g rfl).2
      by_cases hpos : 0 < l.length
      · have hrow : Holds (encI (klM l)) W g 0 (idxM l).toArray := fun j hj => by
          have hj' : j < (idxM l).length := by simpa using hj
          have h1 := ho.cellAt j (by omega)
          have hm := idx_mem.1 (List.getElem_mem hj')
          refine ⟨?_, by rw [Nat.zero_add]; exact ho.frozenAt j⟩
          rw [Nat.zero_add, h1, arr_get, List.getElem?_map, List.getElem?_eq_getElem hj']
          simp [List.getD, List.getElem?_eq_getElem hj', encI, kl_in hm.1 hm.2.1]
        have hcm : CmpL (klM l) 100 #[.pointer (some ⟨w.heap.size, 0, none⟩)] (fun x y => cmpZ (rn l (klM l x)) (rn l (klM l y))) g 0 (idxM l).length W := fun m os dk hsz' x y => by
          have hSW : SL (klM l) W g 0 dk.toList (sortWorld (encI (klM l)) W g 0 m dk os) := ⟨m, os, rfl⟩
          have hb2 : Below (w.heap.size + 1) W0 (sortWorld (encI (klM l)) W g 0 m dk os) := below_sorted hb hg0 hgl hSW
          have hbw : Below w.heap.size w (sortWorld (encI (klM l)) W g 0 m dk os) := hb0.trans (hb2.mono (Nat.le_succ _))
          have hx := kl_bd hpos x
          have hy := kl_bd hpos y
          refine (orderF_any w.heap.size a cap l (klM l x) (klM l y) _ ?_ (h.below hbw) hx.1 hx.2 hy.1 hy.2).mono ?_
          · exact (hb2.cell (p := ⟨w.heap.size, 0, none⟩) (Nat.lt_succ_self _)).trans e0
          · rintro e w' ⟨he, q, rfl⟩
            exact ⟨he, q, #[], by rw [grow_empty]⟩
        have hst := sortStable_any (klf := klM l) (fun x => rn l (klM l x)) 100 #[.pointer (some ⟨w.heap.size, 0, none⟩)] (fun x y => cmpZ (rn l (klM l x)) (rn l (klM l y))) (fun x y => cmpZ_lt _ _) hF W g 0 cp (idxM l) ⟨rune_one, hrow, hgl⟩ hcm (by have := idxK_le l l.length; rw [idxK_all] at this; omega) (SW.start hrow)
        refine hst.mono ?_
        rintro e w' ⟨he, L', hB, hSr, hSL⟩
        have eL := sorted_is hB hSr
        subst eL
        refine ⟨he, ⟨some ⟨g, 0, none⟩, cp, by rw [hol], fun j hj => ⟨g, rfl, by omega, ?_⟩⟩, hb0.trans ((below_sorted hb hg0 hgl hSL).mono (Nat.le_succ _))⟩
        have hc := hSL.cell (L0 := idxM l) ⟨rune_one, hrow, hgl⟩ hol j hj
        rw [Nat.zero_add] at hc
        rw [hc]
        have hm := ord_mem.1 (show (ordM l).getD j 0 ∈ ordM l from by rw [List.getD_eq_getElem?_getD, List.getElem?_eq_getElem hj]; exact List.getElem_mem _)
        rw [kl_in hm.1 hm.2.1]
      · have h0 : l.length = 0 := by omega
        have hn : (idxM l).length = 0 := by have := idxK_le l l.length; rw [idxK_all] at this; omega
        rw [hn]
        refine (sortStable_none _ _ _ W).mono ?_
        rintro e w' ⟨he, rfl⟩
        exact ⟨he, ⟨_, _, by rw [hol, hn], fun j hj => by omega⟩, hb0.trans (hb.mono (Nat.le_succ _))⟩
  have HV : Hid (∀ W, Below (w.heap.size + 1) W0 W → RunesC W a cap l) := fun W hb => h.below (hb0.trans (hb.mono (Nat.le_succ _)))
  have HNP : Hid (∀ (W : World) (r : Int), _) := fun W r => notPlain_any r W
  have HIX : Hid (idxK l l.length = idxM l) := rfl
  have HNX : Hid (∀ k, idxK l (k + 1) = if 128 ≤ l.getD k 0 then idxK l k ++ [(k : Int)] else idxK l k) := idxK_next l
  have HLE : Hid (∀ k, (idxK l k).length ≤ k) := idxK_le l
  generalize ordM l = O at *
  generalize idxM l = I at *
  generalize idxK l = J at *
  have HBR : Hid (Below (w.heap.size + 1) W0 W0) := Below.refl _ _
  have H0 : Hid (J 0 = []) := by have := HLE.out 0; exact List.eq_nil_of_length_eq_zero (by omega)
  clear h hb0 e0 hF
  subst hW0
  go_enter Tryd.func53, Tryd.ntmps53
  go_wp2
  go_loopw [3, 8] (fun v x wr => ∃ k : Nat, x = .int .i64 k ∧ k ≤ l.length ∧ wr.ownsRow (w.heap.size + 1) 3 1 v (J k).length ((J k).map (Value.int .i64)) ∧ Hid (Below (w.heap.size + 1) (w.alloc (.cells #[.slice a l.length cap] 24)) wr)) (fun _ x _ => l.length - (intOf x).toNat)
  case atStart => exact ⟨0, rfl, Nat.zero_le _, by rw [H0.out]; exact World.ownsRow_nil _ _ _ _, HBR⟩
  case round =>
    obtain ⟨k, rfl, hk, hown, HB⟩ := hrel
    have hws : w.heap.size + 1 ≤ wr.heap.size := by have := HB.out.size; simp at this; omega
    by_cases hlt : k < l.length
    · obtain ⟨b, off, rfl, hc⟩ := (HV.out wr HB.out).2 k hlt
      have HC := Hid.mk' (HNP.out wr (l.getD k 0))
      have HS := Hid.mk' (HNX.out k)
      have hjl := HLE.out k
      have hklz : (k : Int) < (l.length : Int) := by omega
      generalize l.getD k 0 = r at *
      by_cases hr : 128 ≤ r
      · rw [if_pos hr] at HS
        rw [decide_eq_true hr] at HC
        go_wp2_with fail
        refine HC.out.mono ?_
        rintro e w1 ⟨rfl, rfl⟩
        go_wp2_with (at_builtin; refine wpList_append_own _ rfl _ _ 79 rfl (w.heap.size + 1) 3 i0 (.int .i64 0) 1 8 Tryd.underlying79 hi hz0 hz1 hz2 rfl (by decide) _ _ _ rfl (hown.alloc _) ⟨wr.heap.size, 0, none⟩ 1 1 ([(k : Int)].map (Value.int .i64)) rfl rfl (cells_new _ _ _) (ints_one _ _) (by unfold maxLen; omega) (by omega) (by simp; omega) ?_; intro v' w2 hown' hgrow _)
        have HB2 : Hid (Below (w.heap.size + 1) (w.alloc (.cells #[.slice (some ⟨b, off, none⟩) l.length cap] 24)) w2) := (HB.out.alloc hws _).grown hgrow (by simp; omega) (fun j hj => (hown.lt j hj).1)
        have hown2 : w2.ownsRow (w.heap.size + 1) 3 1 v' (J (k + 1)).length ((J (k + 1)).map (Value.int .i64)) := by
          rw [HS.out]; simpa using hown'
        clear hown hown' hgrow
        go_roundw
        case rel => exact ⟨k + 1, by go_num, by omega, hown2, HB2⟩
        case measure => simp [intOf]; omega
      · rw [if_neg hr] at HS
        rw [decide_eq_false hr] at HC
        rw [← HS.out] at hown
        go_wp2_with fail
        refine HC.out.mono ?_
        rintro e w1 ⟨rfl, rfl⟩
        go_wp2
        go_roundw
        case rel => exact ⟨k + 1, by go_num, by omega, hown, HB⟩
        case measure => simp [intOf]; omega
    · obtain rfl : k = l.length := by omega
      rw [HIX.out] at hown
      have HS := Hid.mk' (HSORT.out wr _ HB.out hown)
      go_wp2_with fail
      refine HS.out.mono ?_
      rintro e w1 ⟨rfl, hI, hb1⟩
      obtain ⟨ya, yc, rfl⟩ := own_slice hown
      go_wp2
      go_ret
      exact ⟨_, rfl, hI, hb1⟩
end Go.Proofs.YtockmkcoehepiaaDoor

/-
  What is proved here: what slices.Clone answers at runes. · a part of a row of runes of one's own is sorted: what the row then holds. · what decomp.Order answers.
-/
import Derived.Test.YtoceaielclomcaaRRGreatDoorS7
import Derived.Test.YtoceaielclomcaaRRGreatDoorKB
import Derived.Shelf.SlicesE.Clone
import Derived.Test.YtoceaielclomcaaRRGreatDoorE0
namespace Go.Proofs.YtoceaielclomcaaRRGreatDoor
open Go.RowKit Go.Sort

set_option maxRecDepth 20000 in
set_option maxHeartbeats 2000000 in
theorem clone_any (v : Value) (l : List Int) (w : World) (hT : Runes w v l) (hl : l.length ≤ 268435456) :
    Calls Tryz.prog 131 #[v] w fun e w' => ∃ v', e = .returned v' ∧ w'.ownsRow w.heap.size 21 1 v' l.length (l.map (Value.int .i32)) ∧ Below w.heap.size w w' := by
  obtain ⟨i0, hi, hz0, hz1, hz2⟩ := info_parts Tryz.infoRune
  have q24 : ∀ (w : World) (a : Option Addr) (n c n' c' : Nat), (binOp .eql 37 (.slice a n c) (.slice none n' c')).run Tryz.prog w = .ok (.bool a.isNone) w := fun w a n c n' c' => Lib.run_eql_slice_nil w _ _ a n c n' c' Tryz.underlying37
  obtain ⟨a, cap, rfl, hT⟩ := hT
  cases a with
  | none =>
    obtain rfl : l = [] := by
      cases l with
      | nil => rfl
      | cons x l =>
        obtain ⟨b, off, h, -⟩ := hT 0 (by simp)
        cases h
    clear hT hi hz0 hz1 hz2
    go_enter Tryz.func131, Tryz.ntmps131
    go_wp2
    go_ret
    exact ⟨_, rfl, World.ownsRow_nil _ _ _ _, Below.refl _ _⟩
  | some ad =>
    have HO := Hid.mk' (own_new w w.heap.size [] 21 (Nat.le_refl _) (by simp))
    have hb0 : Below w.heap.size w (w.alloc (.cells #[] 21)) := (Below.refl _ w).alloc (Nat.le_refl _) _
    have HC : Hid (∀ j u, (l.map (Value.int .i32))[j]? = some u → (w.alloc (.cells #[] 21)).cell? (ad.add j) = some u) := fun j u h => by
      have hj : j < l.length := by
        rcases Nat.lt_or_ge j l.length with g | g
        · exact g
        · rw [List.getElem?_eq_none (by simpa using g)] at h; cases h
      obtain ⟨b, off, e, hc⟩ := hT j hj
      obtain rfl : ad = ⟨b, off, none⟩ := by simpa using e
      rw [List.getElem?_map, List.getElem?_eq_getElem hj] at h
      simp only [Option.map_some, Option.some.injEq] at h
      have := (hb0.cell (p := ⟨b, off + j, none⟩) (lt_of_cell hc)).trans hc
      rw [Addr.add_lit]
      rw [this, ← h]
      simp [List.getD, List.getElem?_eq_getElem hj]
    have HB := Hid.mk' hb0
    obtain ⟨n, hn⟩ : ∃ n, l.length = n := ⟨_, rfl⟩
    have HN := Hid.mk' hn
    rw [hn] at hl ⊢
    clear hT hb0 hn
    generalize hvs : l.map (Value.int .i32) = vs at *
    have HV : Hid (vs.length = n ∧ ∀ u ∈ vs, u.oneCell' = true) := ⟨by rw [← hvs]; simpa using HN.out, by rw [← hvs]; exact ints_one .i32 l⟩
    clear hvs
    go_enter Tryz.func131, Tryz.ntmps131
    go_wp2_with (at_builtin; (refine wpList_append_own _ rfl _ _ 37 rfl w.heap.size 21 i0 (.int .i32 0) 1 4 Tryz.underlying37 hi hz0 hz1 hz2 rfl (by decide) _ _ _ rfl HO.out ad n cap vs rfl (by rw [HV.out.1]; simp) HC.out HV.out.2 (by unfold maxLen; simp; omega) (by simp; omega) (by simp) ?_; intro v' w2 hown' hgrow _))
    go_ret
    refine ⟨_, rfl, by simpa using hown', HB.out.grown hgrow (by simp) (fun j hj => by have := (HO.out.lt j hj).1; omega)⟩
end Go.Proofs.YtoceaielclomcaaRRGreatDoor
namespace Go.Proofs.YtoceaielclomcaaRRGreatDoor
open Go.RowKit Go.Sort

theorem below_grow (w : World) (n : Nat) (os : Array Obj) : Below w.heap.size w (grow (w.drewN n) os) := by
  refine ⟨rfl, rfl, rfl, by simp [grow, World.drewN], fun k hk => ?_⟩
  show (w.heap ++ os)[k]? = w.heap[k]?
  rw [Array.getElem?_append_left hk]
theorem below_sorted {w0 w w2 : World} {B g fr : Nat} {L' : List Int} (hb : Below B w0 w) (hg : B ≤ g) (hgs : g < w.heap.size) (h : SL w g fr L' w2) : Below B w0 w2 := by
  obtain ⟨m, os, rfl⟩ := h
  refine hb.trans ⟨rfl, rfl, rfl, by simp [sortWorld, grow, putRow, mapBlock, Sort.ahead], fun k hk => ?_⟩
  show ((w.heap.modify g (onCells (putCells (Value.int .i32) fr L'.toArray))) ++ os)[k]? = w.heap[k]?
  rw [Array.getElem?_append_left (by simp; omega), Array.getElem?_modify, if_neg (by omega)]
theorem own_sorted {w w2 : World} {B g n cap fr : Nat} {P S Q S' : List Int} (h : w.ownsRow B 21 1 (.slice (some ⟨g, 0, none⟩) n cap) n ((P ++ S ++ Q).map (Value.int .i32))) (hP : P.length = fr) (hS : S'.length = S.length) (hw : SL w g fr S' w2) : w2.ownsRow B 21 1 (.slice (some ⟨g, 0, none⟩) n cap) n ((P ++ S' ++ Q).map (Value.int .i32)) := by
  obtain ⟨m, os, rfl⟩ := hw
  obtain ⟨h1, h2⟩ := h
  refine ⟨by simpa [hS] using h1, ?_⟩
  rcases h2 with ⟨e0, -⟩ | ⟨g', cap', cur, e0, hb, hg, hn, hm, hs, ht⟩
  · cases e0
  · injection e0 with e1 _ e3
    injection e1 with e1
    injection e1 with e1
    subst e1 e3
    have hgl : g < w.heap.size := by
      rcases Nat.lt_or_ge g w.heap.size with q | q
      · exact q
      · rw [Array.getElem?_eq_none q] at hg; cases hg
    refine .inr ⟨g, cap, putCells (Value.int .i32) fr S'.toArray cur, rfl, hb, ?_, hn, hm, by simpa [putCells] using hs, ?_⟩
    · show ((w.heap.modify g (onCells (putCells (Value.int .i32) fr S'.toArray))) ++ os)[g]? = _
      rw [Array.getElem?_append_left (by simpa using hgl), Array.getElem?_modify, if_pos rfl, hg]
      rfl
    · have hnl : (P ++ S ++ Q).length = n := by simpa using h1
      have hl : n ≤ cur.size := by omega
      apply List.ext_getElem
      · simp [putCells]
        simp at hnl
        omega
      · intro i i1 i2
        have hin : i < n := by simp at i1; omega
        have hc : cur[i]'(by omega) = Value.int .i32 ((P ++ S ++ Q)[i]'(by omega)) := by
          have e9 : (cur.toList.take (n * 1))[i]'(by simp; omega) = ((P ++ S ++ Q).map (Value.int .i32))[i]'(by simpa using (by omega : i < (P ++ S ++ Q).length)) := by simp only [ht]
          simp only [List.getElem_take, Array.getElem_toList, List.getElem_map] at e9
          exact e9
        simp only [List.getElem_take, Array.getElem_toList, putCells, Array.getElem_mapIdx, List.getElem_map]
        by_cases q1 : i < fr
        · rw [if_neg (by omega), hc, List.getElem_append_left (by simp; omega), List.getElem_append_left (by omega), List.getElem_append_left (by simp; omega), List.getElem_append_left (by omega)]
        · by_cases q2 : i < fr + S'.length
          · rw [if_pos ⟨by omega, by simpa using q2⟩, List.getElem_append_left (by simp; omega), List.getElem_append_right (by omega)]
            congr 1
            rw [arr_get, List.getD, List.getElem?_eq_getElem (by omega)]
            simp [hP]
          · rw [if_neg (by simp; omega), hc, List.getElem_append_right (by simp; omega), List.getElem_append_right (by simp; omega)]
            congr 1
            simp [hS]
end Go.Proofs.YtoceaielclomcaaRRGreatDoor
namespace Go.Proofs.YtoceaielclomcaaRRGreatDoor
open Go.RowKit Go.Sort

section
variable {c : Int → Int}
/-- as far as the rune number k the list is in order; the rune ahead of k has no class -/
def Upto (c : Int → Int) (k : Nat) (L : List Int) : Prop := (∀ i, i < k → i + 1 < L.length → ¬ (0 < c (L.getD (i + 1) 0) ∧ c (L.getD (i + 1) 0) < c (L.getD i 0))) ∧ (k = 0 ∨ L.length < k ∨ c (L.getD (k - 1) 0) ≤ 0)
theorem upto_zero (L : List Int) : Upto c 0 L := ⟨fun i hi => by omega, .inl rfl⟩
theorem upto_done {k : Nat} {L : List Int} (h : Upto c k L) (hk : L.length ≤ k) : InOrder c L := fun i hi => h.1 i (by omega) hi
/-- a part of a list sorted -/
theorem seg_step {fr tz : Nat} {P S Q S' : List Int} (hP : P.length = fr) (hSl : fr + S.length = tz) (hB : Bub c 0 S.length S S') (hS : Srt c 0 S.length S') (hpos : ∀ x ∈ S, 0 < c x) (hU : Upto c fr (P ++ S ++ Q)) (htz : (P ++ S ++ Q).length = tz ∨ c ((P ++ S ++ Q).getD tz 0) ≤ 0) :
    orderM c (P ++ S' ++ Q) = orderM c (P ++ S ++ Q) ∧ Upto c (tz + 1) (P ++ S' ++ Q) := by
  refine ⟨(hB.order hpos P Q).symm, ?_⟩
  have hl : S'.length = S.length := hB.length
  have g1 : ∀ i, i < fr → (P ++ S' ++ Q).getD i 0 = (P ++ S ++ Q).getD i 0 := fun i hi => by
    simp only [List.getD, List.append_assoc]
    rw [List.getElem?_append_left (by omega), List.getElem?_append_left (by omega)]
  have g2 : ∀ i, fr ≤ i → i < tz → (P ++ S' ++ Q).getD i 0 = S'.getD (i - fr) 0 := fun i h1 h2 => by
    simp only [List.getD, List.append_assoc]
    rw [List.getElem?_append_right (by omega), List.getElem?_append_left (by omega), hP]
  have g3 : ∀ i, tz ≤ i → (P ++ S' ++ Q).getD i 0 = (P ++ S ++ Q).getD i 0 := fun i h1 => by
    simp only [List.getD, List.append_assoc]
    rw [List.getElem?_append_right (by omega), List.getElem?_append_right (by omega), List.getElem?_append_right (by omega), List.getElem?_append_right (by omega), hl]
  have hlen : (P ++ S' ++ Q).length = (P ++ S ++ Q).length := by simp [hl]
  have hq : (P ++ S ++ Q).length = tz + Q.length := by simp; omega
  refine ⟨fun i hi hi' => ?_, ?_⟩
  · rw [hlen] at hi'
    rcases Nat.lt_or_ge (i + 1) fr with q | q
    · rw [g1 _ q, g1 _ (by omega)]
      exact hU.1 i (by omega) hi'
    · rcases Nat.eq_or_lt_of_le q with q | q
      · have : c ((P ++ S' ++ Q).getD i 0) ≤ 0 := by
          rw [g1 i (by omega)]
          rcases hU.2 with h | h | h
          · omega
          · omega
          · rwa [show fr - 1 = i by omega] at h
        omega
      · rcases Nat.lt_or_ge (i + 1) tz with r | r
        · rw [g2 _ (by omega) r, g2 _ (by omega) (by omega)]
          have := hS (i - fr) (i + 1 - fr) (Nat.zero_le _) (by omega) (by omega)
          omega
        · have : c ((P ++ S ++ Q).getD tz 0) ≤ 0 := by
            rcases htz with h | h
            · omega
            · exact h
          rcases Nat.eq_or_lt_of_le r with r | r
          · rw [g3 (i + 1) (by omega), ← r]
            omega
          · obtain rfl : i = tz := by omega
            rw [g3 i (Nat.le_refl _)]
            rw [g3 (i + 1) (by omega)]
            omega
  · rw [hlen]
    rcases htz with h | h
    · right; left; omega
    · right; right
      rw [Nat.add_sub_cancel, g3 tz (Nat.le_refl _)]
      exact h
end
set_option maxRecDepth 20000 in
set_option maxHeartbeats 8000000 in
theorem order_any (vr vc ve : Value) (cl : List Rg) (v : Value) (l : List Int) (w : World) (hT : Tab w vc cl) (hl : cl.length ≤ 2147483648) (hm : Rises cl) (ha : Apart cl) (hv : Runes w v l) (hll : l.length ≤ 268435456) :
    Calls Tryz.prog 91 #[.agg #[vr, vc, ve], v] w fun e w' => ∃ v', e = .returned v' ∧ w'.ownsRow w.heap.size 21 1 v' l.length ((orderM (classOf cl) l).map (Value.int .i32)) ∧ Below w.heap.size w w' := by
  have mixed : Tryz.prog.follows .mixedOrders = true := by kernel_rfl
  obtain ⟨W0, hW0, hsz, hb0, e0, e1, e2⟩ := norm_box w vr vc ve
  have HCL := Hid.mk' (clone_any v l W0 (hv.below hb0) hll)
  have HK : Hid (∀ W, Below (w.heap.size + 1) W0 W → ∀ z (n : Nat) (os : Array Obj), Calls Tryz.prog 124 #[.agg #[vr, vc, ve], .int .i32 z] (grow (W.drewN n) os) fun e w' => e = .returned (.int .i64 (classOf cl z)) ∧ ∃ q os', w' = grow ((grow (W.drewN n) os).drewN q) os') := fun W hb z n os => by
    have hbw : Below w.heap.size w (grow (W.drewN n) os) := hb0.trans ((hb.mono (Nat.le_succ _)).trans ((below_grow W n os).mono (by have := hb.size; omega)))
    refine (class_g vr vc ve cl z (grow (W.drewN n) os) (hT.below hbw) hl hm ha).mono ?_
    rintro e w' ⟨he, hB⟩
    exact ⟨he, hB.grow⟩
  have HCMP : Hid (∀ W g fr sz, Below (w.heap.size + 1) W0 W → w.heap.size + 1 ≤ g → g < W.heap.size → CmpL 133 #[.pointer (some ⟨w.heap.size, 0, none⟩)] (fun x y => cmpZ (classOf cl x) (classOf cl y)) g fr sz W) := fun W g fr sz hb hg hgs m os dk hsz' x y => by
    have hSW : SL W g fr dk.toList (sortWorld (Value.int .i32) W g fr m dk os) := ⟨m, os, rfl⟩
    have hb2 : Below (w.heap.size + 1) W0 (sortWorld (Value.int .i32) W g fr m dk os) := below_sorted hb hg hgs hSW
    have hbw : Below w.heap.size w (sortWorld (Value.int .i32) W g fr m dk os) := hb0.trans (hb2.mono (Nat.le_succ _))
    refine orderF_any w.heap.size vr vc ve cl x y _ ?_ ?_ ?_ (hT.below hbw) hl hm ha
    · exact (hb2.cell (p := ⟨w.heap.size, 0, none⟩) (Nat.lt_succ_self _)).trans e0
    · exact (hb2.cell (p := ⟨w.heap.size, 1, none⟩) (Nat.lt_succ_self _)).trans e1
    · exact (hb2.cell (p := ⟨w.heap.size, 2, none⟩) (Nat.lt_succ_self _)).trans e2
  have HEE : Hid (∀ W, Below (w.heap.size + 1) W0 W → ∀ (n : Nat) (os : Array Obj), (grow (W.drewN n) os).cell? ⟨w.heap.size, 0, none⟩ = some vr ∧ (grow (W.drewN n) os).cell? ⟨w.heap.size, 1, none⟩ = some vc ∧ (grow (W.drewN n) os).cell? ⟨w.heap.size, 2, none⟩ = some ve) := fun W hb n os => by
    have hb2 : Below (w.heap.size + 1) W0 (grow (W.drewN n) os) := hb.trans ((below_grow W n os).mono (by have := hb.size; omega))
    exact ⟨(hb2.cell (p := ⟨w.heap.size, 0, none⟩) (Nat.lt_succ_self _)).trans e0, (hb2.cell (p := ⟨w.heap.size, 1, none⟩) (Nat.lt_succ_self _)).trans e1, (hb2.cell (p := ⟨w.heap.size, 2, none⟩) (Nat.lt_succ_self _)).trans e2⟩
  have HBW : Hid (∀ W, Below (w.heap.size + 1) W0 W → Below w.heap.size w W) := fun W hb => hb0.trans (hb.mono (Nat.le_succ _))
  have hF : ∀ args w, (callFunc 133 args).run Tryz.prog w = .ok (.enter 133 args) w := enters_of Tryz.func133 (by kernel_rfl) rfl
  obtain ⟨va, vcp, rfl, -⟩ := id hv
  have HFS : Hid (∀ args w, (callFunc 133 args).run Tryz.prog w = .ok (.enter 133 args) w) := hF
  generalize hcc : classOf cl = c at *
  have HLT : Hid (∀ x y, decide (cmpZ (c x) (c y) < 0) = decide (c x < c y)) := fun x y => cmpZ_lt _ _
  have HNIL : Hid (l.length = 0 → orderM c l = l) := fun h => by rw [List.length_eq_zero_iff.1 h]; rfl
  obtain ⟨n, hn⟩ : ∃ n, l.length = n := ⟨_, rfl⟩
  have HN := Hid.mk' hn
  rw [hn] at hll HCL HNIL ⊢
  clear hT hm ha hv hcc hn hF e0 e1 e2
  go_enter Tryz.func91, Tryz.ntmps91
  go_wp2_with fail
  refine HCL.out.mono ?_
  rintro e w1 ⟨v1, rfl, ho1, hb1⟩
  rw [hsz] at ho1 hb1
  rcases ho1.2 with ⟨rfl, rfl⟩ | ⟨g, cap, cur, rfl, hg0, hgc, hncap, -, -, -⟩
  · have hres := Hid.mk' (HNIL.out rfl)
    have HB := Hid.mk' (HBW.out w1 hb1)
    clear HCL HK HCMP HEE HBW ho1 hb1 HNIL HFS HLT
    go_wp2
    refine wp_loop_rounds 1 ?_
    rw [rounds_succ]
    go_wp2
    go_ret
    refine ⟨_, rfl, ?_, HB.out⟩
    rw [hres.out, List.length_eq_zero_iff.1 HN.out]
    exact World.ownsRow_nil _ _ _ _
  · have hgs : g < w1.heap.size := (ho1.lt g rfl).2
    have HO1 := Hid.mk' ho1
    have HB1 := Hid.mk' hb1
    have hcapw : cap ≤ 9223372036854775807 := by
      have := ho1.2
      rcases this with ⟨h, -⟩ | ⟨g', cap', cur', h, -, -, -, hmx, -, -⟩
      · cases h
      · simp only [Value.slice.injEq] at h
        obtain ⟨-, -, rfl⟩ := h
        unfold maxLen at hmx
        omega
    clear HCL ho1 hb1 hgc HNIL
    go_wp2
    go_loopw [6] (fun x wr => ∃ fr : Nat, x = .int .i64 fr ∧ fr ≤ n + 1 ∧ Hid (∃ L, L.length = n ∧ wr.ownsRow (w.heap.size + 1) 21 1 (.slice (some ⟨g, 0, none⟩) n cap) n (L.map (Value.int .i32)) ∧ orderM c L = orderM c l ∧ Upto c fr L) ∧ Hid (Below (w.heap.size + 1) W0 wr) ∧ g < wr.heap.size) (fun x _ => n + 1 - (intOf x).toNat)
    case atStart => exact ⟨0, rfl, Nat.zero_le _, ⟨l, HN.out, HO1.out, rfl, upto_zero l⟩, HB1, hgs⟩
    case round =>
      clear HO1 HB1 hgs
      obtain ⟨fr, rfl, hfr, hI, HB, hgs⟩ := hrel
      by_cases hlt : fr < n
      · obtain ⟨L, hL, hO, hOr, hU⟩ := hI.out
        have HL : Hid (L.length = n ∧ orderM c L = orderM c l ∧ Upto c fr L) := ⟨hL, hOr, hU⟩
        have HO := Hid.mk' hO
        have hfz : (fr : Int) < (n : Int) := by omega
        clear hI hL hO hOr hU
        go_wp2
        go_loopw [7] (fun y wr => ∃ tz : Nat, y = .int .i64 tz ∧ fr ≤ tz ∧ tz ≤ n ∧ Hid (∀ k, fr ≤ k → k < tz → 0 < c (L.getD k 0)) ∧ Hid (wr.ownsRow (w.heap.size + 1) 21 1 (.slice (some ⟨g, 0, none⟩) n cap) n (L.map (Value.int .i32))) ∧ Hid (Below (w.heap.size + 1) W0 wr) ∧ g < wr.heap.size) (fun y _ => n - (intOf y).toNat)
        case atStart => exact ⟨fr, rfl, Nat.le_refl _, by omega, fun k h1 h2 => by omega, HO, HB, hgs⟩
        case round =>
          clear HO HB hgs
          obtain ⟨tz, rfl, hft, htn, hpos, HO, HB, hgs⟩ := hrel
          have HG : Hid (∀ (q : Nat) (os : Array Obj), (grow (wr.drewN q) os).ownsRow (w.heap.size + 1) 21 1 (.slice (some ⟨g, 0, none⟩) n cap) n (L.map (Value.int .i32)) ∧ Below (w.heap.size + 1) W0 (grow (wr.drewN q) os) ∧ g < (grow (wr.drewN q) os).heap.size) := fun q os => by
            have h1 := below_grow wr q os
            refine ⟨owns_below HO.out h1, HB.out.trans (h1.mono (by have := HB.out.size; omega)), ?_⟩
            have := h1.size
            omega
          by_cases htl : tz < n
          · have la : ∀ (q : Nat) (os : Array Obj), (grow (wr.drewN q) os).cell? ⟨g, tz, none⟩ = some (.int .i32 (L.getD tz 0)) := fun q os => by
              have h := (HG.out q os).1.cellAt tz (by omega)
              rw [h, List.getElem?_map, List.getElem?_eq_getElem (by rw [HL.out.1]; exact htl)]
              simp [List.getD, List.getElem?_eq_getElem (show tz < L.length by rw [HL.out.1]; exact htl)]
            have c0 : ∀ (q : Nat) (os : Array Obj), (grow (wr.drewN q) os).cell? ⟨w.heap.size, 0, none⟩ = some vr := fun q os => (HEE.out wr HB.out q os).1
            have c1 : ∀ (q : Nat) (os : Array Obj), (grow (wr.drewN q) os).cell? ⟨w.heap.size, 1, none⟩ = some vc := fun q os => (HEE.out wr HB.out q os).2.1
            have c2 : ∀ (q : Nat) (os : Array Obj), (grow (wr.drewN q) os).cell? ⟨w.heap.size, 2, none⟩ = some ve := fun q os => (HEE.out wr HB.out q os).2.2
            have hk := HK.out wr HB.out (L.getD tz 0)
            have HNX : Hid (0 < c (L.getD tz 0) → ∀ k, fr ≤ k → k < tz + 1 → 0 < c (L.getD k 0)) := fun h k h1 h2 => by
              rcases Nat.lt_or_ge k tz with q | q
              · exact hpos.out k h1 q
              · obtain rfl : k = tz := by omega
                exact h
            have HST : Hid (¬ 0 < c (L.getD tz 0) → n = tz ∨ c (L.getD tz 0) ≤ 0) := fun h => .inr (by omega)
            generalize hze : L.getD tz 0 = z at la hk HNX
            have HZ := Hid.mk' hze
            clear hze
            have htz : (tz : Int) < (n : Int) := by omega
            by_cases hp : 0 < c z
            · have hd : decide (0 < c z) = true := decide_eq_true hp
              have hnx := Hid.mk' (HNX.out hp)
              clear hp HNX HST HO HB
              go_wp2_with fail
              go_quiet_grown (first | (go_at_call 124; refine Calls.grown_of (hk _ _)))
              obtain ⟨p1, p2, p3⟩ := HG.out nq osq
              have HO := Hid.mk' p1
              have HB := Hid.mk' p2
              clear p1 p2 la c0 c1 c2 hk HG
              generalize grow (wr.drewN nq) osq = w2 at *
              go_wp2
              go_roundw
              case rel => exact ⟨tz + 1, by go_num, by omega, by omega, hnx, HO, HB, p3⟩
              case measure => simp [intOf]; omega
            · have hd : decide (0 < c z) = false := decide_eq_false hp
              have HQ := Hid.mk' (HST.out (by rw [HZ.out]; exact hp))
              clear hp HNX HST HO HB
              go_wp2_with fail
              go_quiet_grown (first | (go_at_call 124; refine Calls.grown_of (hk _ _)))
              obtain ⟨p1, p2, p3⟩ := HG.out nq osq
              have HO := Hid.mk' p1
              have HB := Hid.mk' p2
              clear p1 p2 la c0 c1 c2 hk HG
              generalize grow (wr.drewN nq) osq = w2 at *
              have HSEG : Hid (Calls Tryz.prog 132 #[.slice (some ⟨g, fr, none⟩) (tz - fr) (cap - fr), .func (.func 133) #[] #[.pointer (some ⟨w.heap.size, 0, none⟩)]] w2 fun e w' => e = .returned (.tuple #[]) ∧ Hid (∃ L, L.length = n ∧ w'.ownsRow (w.heap.size + 1) 21 1 (.slice (some ⟨g, 0, none⟩) n cap) n (L.map (Value.int .i32)) ∧ orderM c L = orderM c l ∧ Upto c (tz + 1) L) ∧ Hid (Below (w.heap.size + 1) W0 w') ∧ g < w'.heap.size) := by
                obtain ⟨q1, q2, q3⟩ := HL.out
                obtain ⟨P, S, Y, Q, eL, hP, hS, hY⟩ := cut4 L (s := fr) (m := tz) (e := tz) hft (Nat.le_refl _) (by omega)
                obtain rfl := List.length_eq_zero_iff.1 (by omega : Y.length = 0)
                rw [List.append_nil] at eL
                subst eL
                have hrow : Holds (Value.int .i32) w2 g fr S.toArray := fun j hj => by
                  have hj' : j < S.length := by simpa using hj
                  have h1 := HO.out.cellAt (fr + j) (by omega)
                  refine ⟨?_, HO.out.frozenAt (fr + j)⟩
                  rw [h1, arr_get, List.getElem?_map, List.append_assoc, List.getElem?_append_right (by omega), show fr + j - P.length = j by omega, List.getElem?_append_left hj', List.getElem?_eq_getElem hj']
                  simp [List.getD, List.getElem?_eq_getElem hj']
                have hst := sortStable_any c 133 #[.pointer (some ⟨w.heap.size, 0, none⟩)] (fun x y => cmpZ (c x) (c y)) HLT.out HFS.out w2 g fr (cap - fr) S ⟨rune_one, hrow, p3⟩ (HCMP.out w2 g fr S.length HB.out hg0 p3) (by omega) (SW.start hrow)
                rw [show Value.slice (some ⟨g, fr, none⟩) S.length (cap - fr) = Value.slice (some ⟨g, fr, none⟩) (tz - fr) (cap - fr) by rw [hS]] at hst
                refine hst.mono ?_
                rintro e w' ⟨he, S', hB, hSr, hSL⟩
                have hlen : S'.length = S.length := hB.length
                obtain ⟨o1, o2⟩ := seg_step (tz := tz) hP (by omega) hB hSr (fun x hx => by
                  obtain ⟨k, k1, k2, ek⟩ := mem_block (P := P) (Q := Q) hx
                  rw [← ek]
                  exact hpos.out k (by omega) (by omega)) q3 (by rw [q1]; exact HQ.out)
                have ow := own_sorted HO.out hP hlen hSL
                exact ⟨he, ⟨P ++ S' ++ Q, by rw [← q1]; simp [hlen], ow, o1.trans q2, o2⟩, below_sorted HB.out hg0 p3 hSL, (ow.lt g rfl).2⟩
              have hc1 : (tz : Int) ≤ (cap : Int) := by omega
              have hc2 : (fr : Int) ≤ (tz : Int) := by omega
              clear hpos HL HQ HK HCMP HEE
              go_wp2_with fail
              refine HSEG.out.mono ?_
              rintro e w3 ⟨rfl, hI, HB, hgs⟩
              clear HSEG
              go_wp2
              go_roundw
              case rel => exact ⟨tz + 1, by go_num, by omega, hI, HB, hgs⟩
              case measure => simp [intOf]; omega
          · obtain rfl : tz = n := by omega
            have HQ : Hid (tz = tz ∨ c (L.getD tz 0) ≤ 0) := .inl rfl
            have hd : decide (tz < tz) = false := by simp
            clear HO HB
            go_wp2_with fail
            go_quiet_grown (fail)
            obtain ⟨p1, p2, p3⟩ := HG.out nq osq
            have HO := Hid.mk' p1
            have HB := Hid.mk' p2
            clear p1 p2 HG
            generalize grow (wr.drewN nq) osq = w2 at *
            have HSEG : Hid (Calls Tryz.prog 132 #[.slice (some ⟨g, fr, none⟩) (tz - fr) (cap - fr), .func (.func 133) #[] #[.pointer (some ⟨w.heap.size, 0, none⟩)]] w2 fun e w' => e = .returned (.tuple #[]) ∧ Hid (∃ L, L.length = tz ∧ w'.ownsRow (w.heap.size + 1) 21 1 (.slice (some ⟨g, 0, none⟩) tz cap) tz (L.map (Value.int .i32)) ∧ orderM c L = orderM c l ∧ Upto c (tz + 1) L) ∧ Hid (Below (w.heap.size + 1) W0 w') ∧ g < w'.heap.size) := by
              obtain ⟨q1, q2, q3⟩ := HL.out
              obtain ⟨P, S, Y, Q, eL, hP, hS, hY⟩ := cut4 L (s := fr) (m := tz) (e := tz) hft (Nat.le_refl _) (by omega)
              obtain rfl := List.length_eq_zero_iff.1 (by omega : Y.length = 0)
              rw [List.append_nil] at eL
              subst eL
              have hrow : Holds (Value.int .i32) w2 g fr S.toArray := fun j hj => by
                have hj' : j < S.length := by simpa using hj
                have h1 := HO.out.cellAt (fr + j) (by omega)
                refine ⟨?_, HO.out.frozenAt (fr + j)⟩
                rw [h1, arr_get, List.getElem?_map, List.append_assoc, List.getElem?_append_right (by omega), show fr + j - P.length = j by omega, List.getElem?_append_left hj', List.getElem?_eq_getElem hj']
                simp [List.getD, List.getElem?_eq_getElem hj']
              have hst := sortStable_any c 133 #[.pointer (some ⟨w.heap.size, 0, none⟩)] (fun x y => cmpZ (c x) (c y)) HLT.out HFS.out w2 g fr (cap - fr) S ⟨rune_one, hrow, p3⟩ (HCMP.out w2 g fr S.length HB.out hg0 p3) (by omega) (SW.start hrow)
              rw [show Value.slice (some ⟨g, fr, none⟩) S.length (cap - fr) = Value.slice (some ⟨g, fr, none⟩) (tz - fr) (cap - fr) by rw [hS]] at hst
              refine hst.mono ?_
              rintro e w' ⟨he, S', hB, hSr, hSL⟩
              have hlen : S'.length = S.length := hB.length
              obtain ⟨o1, o2⟩ := seg_step (tz := tz) hP (by omega) hB hSr (fun x hx => by
                obtain ⟨k, k1, k2, ek⟩ := mem_block (P := P) (Q := Q) hx
                rw [← ek]
                exact hpos.out k (by omega) (by omega)) q3 (.inl q1)
              have ow := own_sorted HO.out hP hlen hSL
              exact ⟨he, ⟨P ++ S' ++ Q, by rw [← q1]; simp [hlen], ow, o1.trans q2, o2⟩, below_sorted HB.out hg0 p3 hSL, (ow.lt g rfl).2⟩
            have hc1 : (tz : Int) ≤ (cap : Int) := by omega
            have hc2 : (fr : Int) ≤ (tz : Int) := by omega
            clear hpos HL HQ HK HCMP HEE
            go_wp2_with fail
            refine HSEG.out.mono ?_
            rintro e w3 ⟨rfl, hI, HB, hgs⟩
            clear HSEG
            go_wp2
            go_roundw
            case rel => exact ⟨tz + 1, by go_num, by omega, hI, HB, hgs⟩
            case measure => simp [intOf]; omega
      · have HFIN : Hid (wr.ownsRow w.heap.size 21 1 (.slice (some ⟨g, 0, none⟩) n cap) n ((orderM c l).map (Value.int .i32))) := by
          obtain ⟨L, hL, hO, hOr, hU⟩ := hI.out
          rw [← hOr, orderM_in c L (upto_done hU (by omega))]
          exact own_weaken hO (Nat.le_succ _)
        have HB2 := Hid.mk' (HBW.out wr HB.out)
        clear hI HB HK HCMP HEE HBW
        go_wp2
        go_ret
        exact ⟨_, rfl, HFIN.out, HB2.out⟩
end Go.Proofs.YtoceaielclomcaaRRGreatDoor

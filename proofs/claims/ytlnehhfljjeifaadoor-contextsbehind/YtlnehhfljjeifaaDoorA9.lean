/-
  What is proved here: what checkRows answers, where slices.Sort does what it says.
-/
import Derived.Test.YtlnehhfljjeifaaDoorA8
import Derived.Laws.OwnMore
import Derived.Laws.MakeOwn
namespace Go.Proofs.YtlnehhfljjeifaaDoor
open Go.RowKit

/-- what slices.Sort answers at runes of one's own (memory from B on), as many as n -/
def SortsAt (n B : Nat) : Prop := ∀ (W : World) (v : Value) (rs : List Int), rs.length = n → W.ownsRow B 21 1 v rs.length (rs.map (Value.int .i32)) →
  Calls Tryd.prog 35 #[v] W fun e W' => e = .returned (.tuple #[]) ∧ ∃ rs' : List Int, rs'.Perm rs ∧ (∀ i j, i ≤ j → j < rs'.length → rs'.getD i 0 ≤ rs'.getD j 0) ∧ W'.ownsRow B 21 1 v rs.length (rs'.map (Value.int .i32)) ∧ ∀ w0, Below B w0 W → Below B w0 W'
/-- a list of n numbers, of which the first k are as f says, the others 0 -/
def upTo (f : Nat → Int) (n k : Nat) : List Int := (List.range n).map fun j => if j < k then f j else 0
theorem upTo_len (f : Nat → Int) (n k : Nat) : (upTo f n k).length = n := by simp [upTo]
theorem upTo_zero (f : Nat → Int) (n : Nat) : upTo f n 0 = List.replicate n 0 := by
  apply List.ext_getElem
  · simp [upTo]
  · intro i h1 h2; simp [upTo]
theorem upTo_set (f : Nat → Int) (n k : Nat) : (upTo f n k).set k (f k) = upTo f n (k + 1) := by
  apply List.ext_getElem
  · simp [upTo]
  · intro i h1 h2
    simp only [upTo, List.getElem_set, List.getElem_map, List.getElem_range]
    by_cases h : k = i
    · subst h; simp
    · rw [if_neg h]
      by_cases g : i < k
      · rw [if_pos g, if_pos (by omega)]
      · rw [if_neg g, if_neg (by omega)]
theorem upTo_all (l : List Rw) : upTo (fun j => (rw_ l j).fr) l.length l.length = l.map Rw.fr := by
  apply List.ext_getElem
  · simp [upTo]
  · intro i h1 h2
    have hi : i < l.length := by simpa [upTo] using h1
    simp only [upTo, List.getElem_map, List.getElem_range]
    rw [if_pos hi]
    unfold rw_
    rw [List.getD, List.getElem?_eq_getElem hi]
    rfl
theorem map_set_int (K : IntKind) (xs : List Int) (k : Nat) (x : Int) : (xs.map (Value.int K)).set k (.int K x) = (xs.set k x).map (Value.int K) := by
  rw [List.map_set]
theorem made_ints (K : IntKind) (n : Nat) : (madeCells (Value.int K 0).cells (n * 1)).toList = (List.replicate n (0 : Int)).map (Value.int K) := by
  have : (Value.int K 0).cells = #[Value.int K 0] := rfl
  rw [this, Nat.mul_one, toList_madeCells_one, List.map_replicate]
theorem nam_ne {p : Nat → Addr} {c : Nat} (h : c ≠ 0) : nam p c = .iface 121 (.pointer (some (p c))) := if_neg h
theorem any_fr {l : List Rw} {rs : List Int} {x : Int} (hp : rs.Perm (l.map Rw.fr)) : (l.any fun y => y.fr == x) = rs.any fun y => y == x := by
  rw [Bool.eq_iff_iff, List.any_eq_true, List.any_eq_true]
  constructor
  · rintro ⟨y, hy, h⟩
    exact ⟨y.fr, hp.mem_iff.2 (List.mem_map.2 ⟨y, hy, rfl⟩), h⟩
  · rintro ⟨y, hy, h⟩
    obtain ⟨z, hz, rfl⟩ := List.mem_map.1 (hp.mem_iff.1 hy)
    exact ⟨z, hz, h⟩
theorem sought_any {rs : List Int} {x y : Int} (h : Sought rs.length (fun i => rs.getD i 0) x y) : decide (0 ≤ y) = rs.any fun z => z == x := by
  rcases h with ⟨k, rfl, hk, e⟩ | ⟨rfl, h⟩
  · rw [List.any_eq_true.2]
    · simp
    · refine ⟨rs.getD k 0, ?_, by simpa using e⟩
      rw [List.getD, List.getElem?_eq_getElem hk]
      exact List.getElem_mem hk
  · rw [List.any_eq_false.2]
    · rfl
    · intro z hz
      obtain ⟨k, hk, rfl⟩ := List.mem_iff_getElem.1 hz
      have := h k hk
      simp only [List.getD, List.getElem?_eq_getElem hk, Option.getD_some] at this
      simpa using this
/-- a Fault that is laid just now -/
theorem flt_new {W : World} {base : Nat} (hB : base ≤ W.heap.size) (x : Int) (q : Addr) : Flt (W.alloc (.cells #[.int .i64 x, .iface 121 (.pointer (some q))] 58)) (.iface 56 (.pointer (some ⟨W.heap.size, 0, none⟩))) base x q :=
  ⟨W.heap.size, hB, rfl, by rw [World.cell?_alloc_new]; rfl, by rw [World.cell?_alloc_new]; rfl⟩
theorem Tryd.infoInt : (Tryd.prog.info? 3).map (fun i => (i.zero, i.size, i.bytes)) = some (some (.int .i64 0), 1, 8) := by kernel_rfl
set_option maxRecDepth 20000 in
set_option maxHeartbeats 8000000 in
theorem checkRows_any (a : Option Addr) (cap : Nat) (vc ve : Value) (l : List Rw) (hcap : l.length ≤ cap) (w : World) (p : Nat → Addr) (hg : Gl p w) (hT : Rows4 w (.slice a l.length cap) l) (hl : l.length ≤ 2000) (hto : ∀ i, i < l.length → (rw_ l i).to.length ≤ 2147483648) (hs : SortsAt l.length (w.heap.size + 1)) :
    Calls Tryd.prog 23 #[.agg #[.slice a l.length cap, vc, ve]] w fun e w' => ∃ fv, e = .returned fv ∧ Says w' fv w.heap.size p (ff (rowCode l) l.length) ∧ Below w.heap.size w w' := by
  obtain ⟨i0, hi, hz0, hz1, hz2⟩ := info_parts Tryd.infoRune
  obtain ⟨j0, hj, hy0, hy1, hy2⟩ := info_parts Tryd.infoInt
  obtain ⟨W0, hW0⟩ : ∃ W0, w.alloc (.cells #[.slice a l.length cap, vc, ve] 26) = W0 := ⟨_, rfl⟩
  have hsz0 : W0.heap.size = w.heap.size + 1 := by rw [← hW0, World.size_alloc]
  have hb0 : Below w.heap.size w W0 := by rw [← hW0]; exact (Below.refl _ w).alloc (Nat.le_refl _) _
  have e0 : W0.cell? ⟨w.heap.size, 0, none⟩ = some (.slice a l.length cap) := by rw [← hW0, World.cell?_alloc_new]; rfl
  obtain ⟨W1, hmk, hown1, hgr1⟩ := run_make_full (P := Tryd.prog) W0 (w.heap.size + 1) 24 21 i0 (.int .i32 0) 1 Tryd.underlying24 hi hz0 hz1 .i64 .i64 l.length (by rw [hz2]; omega) (by unfold maxLen; omega) (by omega)
  have hbw1 : Below (w.heap.size + 1) W0 W1 := (Below.refl _ _).grown hgr1 (by omega) (fun j hj => by cases hj)
  rw [made_ints, ← upTo_zero (fun j => (rw_ l j).fr)] at hown1
  have HE : Hid (∀ W, Below (w.heap.size + 1) W0 W → W.cell? ⟨w.heap.size, 0, none⟩ = some (.slice a l.length cap) ∧ Below w.heap.size w W) := fun W hb => ⟨(hb.cell (p := ⟨w.heap.size, 0, none⟩) (Nat.lt_succ_self _)).trans e0, hb0.trans (hb.mono (Nat.le_succ _))⟩
  have HT : Hid (Rows4 w (.slice a l.length cap) l) := hT
  have HG : Hid (∀ W, Below w.heap.size w W → Gl p W) := fun W hb => hg.below hb
  have HS := Hid.mk' hs
  have HTO := Hid.mk' hto
  have HF : Hid (∀ W i, Below w.heap.size w W → i < l.length → _) := fun W i hb hi => faultOf4_any (.slice a l.length cap) l i W p (hg.below hb) (hT.below hb) hi (by omega) (hto i hi)
  rw [hsz0] at hmk hown1
  obtain ⟨k0, -⟩ := HE.out W1 hbw1
  clear hT hg hs hto hgr1 hb0
  go_enter Tryd.func23, Tryd.ntmps23
  go_wp2
  go_loopw [17] (fun y wr => ∃ k : Nat, y = .int .i64 k ∧ k ≤ l.length ∧ wr.ownsRow (w.heap.size + 1) 21 1 (.slice (some ⟨w.heap.size + 1, 0, none⟩) l.length l.length) l.length ((upTo (fun j => (rw_ l j).fr) l.length k).map (Value.int .i32)) ∧ Below (w.heap.size + 1) W0 wr) (fun y _ => l.length - (intOf y).toNat)
  case atStart => exact ⟨0, rfl, Nat.zero_le _, hown1, hbw1⟩
  case round =>
    obtain ⟨k, rfl, hk, ho, hb⟩ := hrel
    have hszr : w.heap.size + 1 ≤ wr.heap.size := by have := hb.size; omega
    by_cases hlt : k < l.length
    · obtain ⟨a', cap', e', hTj⟩ := HT.out
      obtain ⟨rfl, rfl⟩ : a = a' ∧ cap = cap' := by simpa using e'
      obtain ⟨b, off, tv, rfl, d0w, d1w, ta, tcap, rfl, -⟩ := hTj k hlt
      obtain ⟨-, hbw⟩ := HE.out wr hb
      have d0 := (hbw.cell (p := ⟨b, off + k * 2, none⟩) (lt_of_cell d0w)).trans d0w
      have d1 := (hbw.cell (p := ⟨b, off + k * 2 + 1, none⟩) (lt_of_cell d1w)).trans d1w
      clear e' hTj d0w d1w hmk k0 hown1 e0 hbw1
      obtain ⟨WA, hWA⟩ : ∃ WA, wr.alloc (.cells #[.int .i32 (rw_ l k).fr, .slice ta (rw_ l k).to.length tcap] 53) = WA := ⟨_, rfl⟩
      have oA : WA.ownsRow (w.heap.size + 1) 21 1 (.slice (some ⟨w.heap.size + 1, 0, none⟩) l.length l.length) l.length ((upTo (fun j => (rw_ l j).fr) l.length k).map (Value.int .i32)) := by rw [← hWA]; exact ho.alloc _
      have cA : WA.cell? ⟨w.heap.size + 1, k, none⟩ = some (.int .i32 0) := by rw [oA.cellAt k (by omega)]; simp [upTo, hlt]
      have fA := oA.frozenAt k
      have r0 : WA.cell? ⟨wr.heap.size, 0, none⟩ = some (.int .i32 (rw_ l k).fr) := by rw [← hWA, World.cell?_alloc_new]; rfl
      have hbA : Below (w.heap.size + 1) W0 WA := by rw [← hWA]; exact hb.alloc hszr _
      have o2 := (oA.stored k (.int .i32 (rw_ l k).fr)).1
      rw [map_set_int, upTo_set (fun j => (rw_ l j).fr)] at o2
      have H2 := Hid.mk' o2
      clear o2 oA ho
      generalize (rw_ l k).fr = fr at *
      go_wp2
      go_roundw
      case rel => exact ⟨k + 1, by go_num, by omega, H2.out, hbA.setCell (p := ⟨w.heap.size + 1, k, none⟩) (Nat.le_refl _) _⟩
      case measure => simp [intOf]; omega
    · obtain rfl : k = l.length := by omega
      rw [upTo_all] at ho
      have HSo := Hid.mk' (HS.out wr (.slice (some ⟨w.heap.size + 1, 0, none⟩) l.length l.length) (l.map Rw.fr) (by simp) (by rw [List.length_map]; exact ho))
      clear ho HS hmk k0 hown1 e0 hbw1
      go_wp2_with fail
      refine HSo.out.mono ?_
      rintro e W3 ⟨rfl, rs', hperm, hmono, ho3, hb3⟩
      have hbw3 := hb3 W0 hb
      rw [List.length_map] at ho3
      have hsz3 : w.heap.size + 1 ≤ W3.heap.size := by have := hbw3.size; omega
      obtain ⟨W4, hmk4, hown4, hgr4⟩ := run_make_full (P := Tryd.prog) W3 (w.heap.size + 1) 66 3 j0 (.int .i64 0) 1 Tryd.underlying66 hj hy0 hy1 .i64 .i64 l.length (by rw [hy2]; omega) (by unfold maxLen; omega) (by omega)
      have hbw4 : Below (w.heap.size + 1) W0 W4 := hbw3.grown hgr4 (by omega) (fun j hj => by cases hj)
      rw [made_ints, ← upTo_zero (fun j => (chainAt l j : Int))] at hown4
      have ho4 : W4.ownsRow (w.heap.size + 1) 21 1 (.slice (some ⟨w.heap.size + 1, 0, none⟩) l.length l.length) l.length (rs'.map (Value.int .i32)) := ho3.kept hgr4 (.inr (by simp [Value.ownBlock]))
      have hsz4 : W3.heap.size < W4.heap.size := by have := hown4.lt W3.heap.size rfl; omega
      have hne : w.heap.size + 1 ≠ W3.heap.size := by have := ho3.lt (w.heap.size + 1) rfl; omega
      obtain ⟨k3, -⟩ := HE.out W3 hbw3
      obtain ⟨k4, -⟩ := HE.out W4 hbw4
      have HPM : Hid (rs'.Perm (l.map Rw.fr)) := hperm
      have HMO := Hid.mk' hmono
      clear hperm hmono ho3 hb3 HSo hgr4
      go_wp2
      generalize hg6 : W3.heap.size = g6 at *
      go_loopw [37] (fun y wr => ∃ k : Nat, y = .int .i64 k ∧ k ≤ l.length ∧ wr.ownsRow (w.heap.size + 1) 21 1 (.slice (some ⟨w.heap.size + 1, 0, none⟩) l.length l.length) l.length (rs'.map (Value.int .i32)) ∧ wr.ownsRow (w.heap.size + 1) 3 1 (.slice (some ⟨g6, 0, none⟩) l.length l.length) l.length ((upTo (fun j => (chainAt l j : Int)) l.length k).map (Value.int .i64)) ∧ Hid (∀ i, i < k → rowCode l i = 0) ∧ Below (w.heap.size + 1) W0 wr) (fun y _ => l.length - (intOf y).toNat)
      case atStart => exact ⟨0, rfl, Nat.zero_le _, ho4, hown4, fun i hi => by omega, hbw4⟩
      case round =>
        obtain ⟨k, rfl, hk, ho3, ho6, hok, hb⟩ := hrel
        have hszr : w.heap.size + 1 ≤ wr.heap.size := by have := hb.size; omega
        have hgr : g6 < wr.heap.size := (ho6.lt g6 rfl).2
        have hgw : w.heap.size + 1 ≤ g6 := (ho6.lt g6 rfl).1
        clear hmk4 hown4 ho4 k3 k4 hbw4 hsz4 hbw3
        by_cases hlt : k < l.length
        · obtain ⟨a', cap', e', hTj⟩ := HT.out
          obtain ⟨rfl, rfl⟩ : a = a' ∧ cap = cap' := by simpa using e'
          obtain ⟨b, off, tv, rfl, d0w, d1w, ta, tcap, rfl, hRt⟩ := hTj k hlt
          obtain ⟨-, hbw⟩ := HE.out wr hb
          have d0 := (hbw.cell (p := ⟨b, off + k * 2, none⟩) (lt_of_cell d0w)).trans d0w
          have d1 := (hbw.cell (p := ⟨b, off + k * 2 + 1, none⟩) (lt_of_cell d1w)).trans d1w
          clear e' d0w d1w hTj
          obtain ⟨WA, hWA⟩ : ∃ WA, wr.alloc (.cells #[.int .i32 (rw_ l k).fr, .slice ta (rw_ l k).to.length tcap] 53) = WA := ⟨_, rfl⟩
          have hbA : Below (w.heap.size + 1) W0 WA := by rw [← hWA]; exact hb.alloc hszr _
          have hbr : Below wr.heap.size wr WA := by rw [← hWA]; exact (Below.refl _ _).alloc (Nat.le_refl _) _
          have hszA : WA.heap.size = wr.heap.size + 1 := by rw [← hWA, World.size_alloc]
          have r1 : WA.cell? ⟨wr.heap.size, 1, none⟩ = some (.slice ta (rw_ l k).to.length tcap) := by rw [← hWA, World.cell?_alloc_new]; rfl
          obtain ⟨kA, hbwA⟩ := HE.out WA hbA
          have HFk := Hid.mk' (HF.out WA k hbwA hlt)
          have HAT : Hid ((∀ i, i < k → rowCode l i = 0) → rowCode l k ≠ 0 → ff (rowCode l) l.length = (k, rowCode l k)) := fun h0 hc => ff_at _ _ k hlt h0 hc
          by_cases hfc : faultCode l k = 0
          · rw [hfc] at HFk
            have hn0 : nam p 0 = .nilIface := rfl
            rw [hn0] at HFk
            have hrise : RiseR l k := rise_of hok.out
            obtain ⟨-, -, hfm⟩ := faultCode_zero hfc
            have h12 := (formed_parts hfm).1
            have hbd : ∀ j, j < k → chainAt l j ≤ 8 := fun j hj => (rowCode_zero (hok.out j hj)).2.2.2.2
            have HCH : Hid (∀ w1, Below WA.heap.size WA w1 → Calls Tryd.prog 37 #[.slice (some ⟨b, off, none⟩) l.length cap, .slice (some ⟨g6, 0, none⟩) l.length l.length, .int .i64 k] w1 fun e w' => e = .returned (.int .i64 (chainAt l k)) ∧ Below w1.heap.size w1 w') := fun w1 hb1 => by
              have hb1w : Below w.heap.size w w1 := hbwA.trans (hb1.mono hbwA.size)
              refine chainOf_any (some ⟨b, off, none⟩) cap l k g6 l.length w1 (HT.out.below hb1w) hcap hl hlt hrise (by omega) (fun j hj => ?_) hbd
              have o6 := owns_below (owns_below ho6 hbr) hb1
              rw [o6.cellAt j (by omega)]
              simp [upTo, hj, show j < l.length by omega]
            have HDE : Hid (deepR l k → ff (rowCode l) l.length = (k, 9)) := fun hd => by
              have e9 := rowCode_deep hfc hd
              have := HAT.out hok.out (by rw [e9]; decide)
              rwa [e9] at this
            have HOK : Hid (¬ deepR l k → ∀ i, i < k + 1 → rowCode l i = 0) := fun hd i hi => by
              rcases Nat.lt_or_ge i k with g | g
              · exact hok.out i g
              · obtain rfl : i = k := by omega
                exact rowCode_none hfc hd
            have hrl : rs'.length = l.length := by rw [HPM.out.length_eq, List.length_map]
            have HRL := Hid.mk' hrl
            have HDP : Hid (deepR l k ↔ ((rw_ l k).to.length = 2 ∧ (rs'.any fun x => x == (rw_ l k).to1) = true) ∨ 8 < chainAt l k) := by
              show _ ↔ _
              unfold deepR chainAt
              rw [any_fr HPM.out]
            have HR1 : Hid (∀ W, Below w.heap.size w W → (rw_ l k).to.length = 2 → ∃ tb toff, ta = some ⟨tb, toff, none⟩ ∧ W.cell? ⟨tb, toff + 1, none⟩ = some (.int .i32 (rw_ l k).to1)) := fun W hbW h2 => by
              obtain ⟨tb, toff, h1, hc⟩ := hRt 1 (by omega)
              exact ⟨tb, toff, h1, (hbW.cell (p := ⟨tb, toff + 1, none⟩) (lt_of_cell hc)).trans hc⟩
            clear hRt HAT hok hfc hfm hrise hbd hn0 hrl HF
            go_wp2_with fail
            refine HFk.out.mono ?_
            rintro e w1 ⟨rfl, hb1⟩
            obtain ⟨k1, hbw1'⟩ := HE.out w1 (hbA.trans (hb1.mono (by omega)))
            clear HFk kA
            go_wp2_with fail
            refine (HCH.out w1 hb1).mono ?_
            rintro e w2 ⟨rfl, hb2⟩
            have o6w := owns_below (owns_below (owns_below ho6 hbr) hb1) hb2
            have o3w := owns_below (owns_below (owns_below ho3 hbr) hb1) hb2
            have c6 : w2.cell? ⟨g6, k, none⟩ = some (.int .i64 0) := by rw [o6w.cellAt k (by omega)]; simp [upTo, hlt]
            have f6 := o6w.frozenAt k
            have r2 : w2.cell? ⟨wr.heap.size, 1, none⟩ = some (.slice ta (rw_ l k).to.length tcap) := by
              rw [hb2.cell (p := ⟨wr.heap.size, 1, none⟩) (by have := hb1.size; show wr.heap.size < _; omega), hb1.cell (p := ⟨wr.heap.size, 1, none⟩) (by show wr.heap.size < _; omega)]
              exact r1
            obtain ⟨W5, hW5⟩ : ∃ W5, w2.setCell ⟨g6, k, none⟩ (.int .i64 (chainAt l k)) = W5 := ⟨_, rfl⟩
            have o5 : W5.ownsRow (w.heap.size + 1) 3 1 (.slice (some ⟨g6, 0, none⟩) l.length l.length) l.length ((upTo (fun j => (chainAt l j : Int)) l.length (k + 1)).map (Value.int .i64)) := by
              have := (o6w.stored k (.int .i64 (chainAt l k))).1
              rw [map_set_int, upTo_set (fun j => (chainAt l j : Int)), hW5] at this
              exact this
            have o35 : W5.ownsRow (w.heap.size + 1) 21 1 (.slice (some ⟨w.heap.size + 1, 0, none⟩) l.length l.length) l.length (rs'.map (Value.int .i32)) := by
              rw [← hW5]
              exact ownsRow_setCell_other o3w (by simp [Value.ownBlock]; omega) _
            have c5 : W5.cell? ⟨g6, k, none⟩ = some (.int .i64 (chainAt l k)) := by rw [← hW5]; exact World.cell?_setCell_same _ _ _ c6
            have r5 : W5.cell? ⟨wr.heap.size, 1, none⟩ = some (.slice ta (rw_ l k).to.length tcap) := by
              rw [← hW5, World.cell?_setCell_far _ _ _ _ (by show g6 ≠ wr.heap.size; omega)]
              exact r2
            have hb5 : Below (w.heap.size + 1) W0 W5 := by
              rw [← hW5]
              exact ((hbA.trans (hb1.mono (by omega))).trans (hb2.mono (by have := hb1.size; omega))).setCell (p := ⟨g6, k, none⟩) hgw _
            obtain ⟨-, hbw5⟩ := HE.out W5 hb5
            have HO5 := Hid.mk' o5
            have HO35 := Hid.mk' o35
            clear o5 o35 o6w o3w r2 k1 hb1 hb2 hbw1' hbA hbr hb ho3 ho6 r1 HCH
            have HSK : Hid (∀ x, _) := fun x => seekRune_any (.slice (some ⟨w.heap.size + 1, 0, none⟩) l.length l.length) rs' x W5 (Runes.own (by rw [HRL.out]; exact HO35.out)) (by rw [HRL.out]; omega) HMO.out
            have g9 := (HG.out W5 hbw5).g9
            have hkl : (k : Int) < (l.length : Int) := by omega
            have HSK1 := Hid.mk' (HSK.out (rw_ l k).to1)
            have HSA : Hid (∀ y, Sought rs'.length (fun i => rs'.getD i 0) (rw_ l k).to1 y → decide (0 ≤ y) = rs'.any fun z => z == (rw_ l k).to1) := fun y h => sought_any h
            clear HSK HMO HPM HT HTO hWA
            obtain ⟨ch, hch⟩ : ∃ ch, chainAt l k = ch := ⟨_, rfl⟩
            rw [hch] at c5 HDP hW5
            have HCHQ := Hid.mk' hch
            by_cases h8 : 8 < ch
            · have hd : decide ((8 : Int) < (ch : Int)) = true := by simp; omega
              have hsay : Hid (ff (rowCode l) l.length = (k, 9)) := HDE.out (HDP.out.2 (.inr h8))
              clear HDE HDP HOK HR1 HSK1 HSA HE HG h8
              generalize (rw_ l k).to.length = tn at *
              generalize (rw_ l k).fr = fr at *
              go_wp2
              go_ret
              refine ⟨_, rfl, ?_, hbw5.alloc hbw5.size _⟩
              rw [hsay.out]
              exact .inr ⟨by simp, flt_new hbw5.size _ _⟩
            · have hd : decide ((8 : Int) < (ch : Int)) = false := by simp; omega
              rcases h12 with h1 | h2
              · have hok' := Hid.mk' (HOK.out (fun h => by rcases HDP.out.1 h with h | h <;> omega))
                rw [h1] at r5
                clear HDE HDP HOK HR1 HSK1 HSA HE HG h8 h1 g9
                go_wp2
                go_roundw
                case rel => exact ⟨k + 1, by go_num, by omega, HO35.out, HO5.out, hok', hb5⟩
                case measure => simp [intOf]; omega
              · obtain ⟨tb, toff, rfl, c1⟩ := HR1.out W5 hbw5 h2
                have hd2 : Hid ((rs'.any fun x => x == (rw_ l k).to1) = true → ff (rowCode l) l.length = (k, 9)) := fun h => HDE.out (HDP.out.2 (.inl ⟨h2, h⟩))
                have hd3 : Hid ((rs'.any fun x => x == (rw_ l k).to1) = false → ∀ i, i < k + 1 → rowCode l i = 0) := fun h => HOK.out (fun hh => by
                  rcases HDP.out.1 hh with ⟨-, h'⟩ | h'
                  · rw [h] at h'; cases h'
                  · omega)
                rw [h2] at r5
                clear HDE HDP HOK HR1 h8 h2
                generalize (rw_ l k).to1 = t1 at *
                generalize (rs'.any fun x => x == t1) = an at *
                go_wp2_with fail
                refine HSK1.out.mono ?_
                rintro e w6 ⟨⟨y, rfl, hy⟩, hb6⟩
                have hyd := HSA.out y hy
                have hbw6 := hbw5.trans (hb6.mono hbw5.size)
                have g9' := (HG.out w6 hbw6).g9
                clear hy HSA HSK1 g9 HG
                cases an
                · have hok' := Hid.mk' (hd3.out rfl)
                  clear g9'
                  go_wp2
                  go_roundw
                  case rel => exact ⟨k + 1, by go_num, by omega, owns_below HO35.out hb6, owns_below HO5.out hb6, hok', hb5.trans (hb6.mono (by have := hb5.size; omega))⟩
                  case measure => simp [intOf]; omega
                · have hsay := Hid.mk' (hd2.out rfl)
                  go_wp2
                  go_ret
                  refine ⟨_, rfl, ?_, hbw6.alloc hbw6.size _⟩
                  rw [hsay.out]
                  exact .inr ⟨by simp, flt_new hbw6.size _ _⟩
          · have hcd : rowCode l k = faultCode l k := rowCode_fault hfc
            rw [nam_ne hfc] at HFk
            have hsay : Hid (ff (rowCode l) l.length = (k, faultCode l k)) := by rw [← hcd]; exact HAT.out hok.out (by rw [hcd]; exact hfc)
            have HFC := Hid.mk' hfc
            clear HAT hcd hfc HF HG HTO HPM HMO HE HT hok hRt
            generalize faultCode l k = c at *
            generalize (rw_ l k).to.length = tn at *
            generalize (rw_ l k).fr = fr at *
            go_wp2_with fail
            refine HFk.out.mono ?_
            rintro e w1 ⟨rfl, hb1⟩
            have hb1w : Below w.heap.size w w1 := hbwA.trans (hb1.mono hbwA.size)
            clear HFk
            go_wp2
            go_ret
            refine ⟨_, rfl, ?_, hb1w.alloc hb1w.size _⟩
            rw [hsay.out]
            exact .inr ⟨HFC.out, flt_new hb1w.size _ _⟩
        · obtain rfl : k = l.length := by omega
          have hsay : Hid (ff (rowCode l) l.length = (0, 0)) := ff_none _ _ hok.out
          obtain ⟨-, hbw⟩ := HE.out wr hb
          clear HF HG HTO HPM HMO HE HT hok
          go_wp2
          go_ret
          exact ⟨_, rfl, .inl ⟨hsay.out, rfl⟩, hbw⟩
end Go.Proofs.YtlnehhfljjeifaaDoor

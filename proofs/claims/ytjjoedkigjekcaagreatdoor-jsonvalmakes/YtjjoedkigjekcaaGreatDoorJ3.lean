/-
  What is proved here: what the laws' count answers at any value in memory.
-/
import Derived.Test.YtjjoedkigjekcaaGreatDoorMJ
import Derived.Deep.RegionHeld3
namespace Go.Proofs.YtjjoedkigjekcaaGreatDoor
open Go.RowKit

theorem below_tr {w : World} : ∀ W W', Below w.heap.size w W → Below W.heap.size W W' → Below w.heap.size w W' := fun _ _ h1 h2 => h1.trans (h2.mono h1.size)
theorem wrap_i64 {x : Int} (h1 : -9223372036854775808 ≤ x) (h2 : x < 9223372036854775808) : IntKind.i64.wrap x = x := by
  simp [IntKind.wrap, IntKind.signed, IntKind.bits]; omega
/-- how far a count may go -/
def bd (most : Nat) : Nat := most + (most + 1) * 140737488355329
theorem bd_step {most n c : Nat} (h1 : 1 ≤ n) (h2 : n ≤ most) (hc : c ≤ bd (most - n)) : n + (140737488355328 + c) ≤ bd most := by unfold bd at *; omega
theorem cntL_le {l : List J} {most : Nat} (ih : ∀ t ∈ l, ∀ most, countM t most ≤ bd most) : ∀ n, 1 ≤ n → n ≤ bd most → cntL (l.map countM) most n ≤ bd most := by
  induction l with
  | nil => intro n _ h; exact h
  | cons t l jh =>
    intro n h1 h2
    rw [List.map_cons, show cntL (countM t :: l.map countM) most n = if n ≤ most then cntL (l.map countM) most (n + countM t (most - n)) else n from rfl]
    split
    · rename_i h
      refine jh (fun x hx => ih x (by simp [hx])) _ (by omega) ?_
      have := bd_step h1 h (ih t (by simp) (most - n))
      omega
    · exact h2
theorem cntM_le {m : List (List UInt8 × J)} {most : Nat} (ih : ∀ x ∈ m, ∀ most, countM x.2 most ≤ bd most) (hs : ∀ x ∈ m, x.1.length ≤ 140737488355328) : ∀ n, 1 ≤ n → n ≤ bd most → cntM (m.map fun x => (x.1, countM x.2)) most n ≤ bd most := by
  induction m with
  | nil => intro n _ h; exact h
  | cons x m jh =>
    intro n h1 h2
    rw [List.map_cons, show cntM ((x.1, countM x.2) :: m.map fun x => (x.1, countM x.2)) most n = if n ≤ most then cntM (m.map fun x => (x.1, countM x.2)) most (n + (x.1.length + countM x.2 (most - n))) else n from rfl]
    split
    · rename_i h
      refine jh (fun x hx => ih x (by simp [hx])) (fun x hx => hs x (by simp [hx])) _ (by omega) ?_
      have := bd_step h1 h (ih x (by simp) (most - n))
      have := hs x (by simp)
      omega
    · exact h2
theorem cntL_pos {l : List J} {most : Nat} : ∀ n, 1 ≤ n → 1 ≤ cntL (l.map countM) most n := by
  induction l with
  | nil => intro n h; exact h
  | cons t l jh =>
    intro n h1
    rw [List.map_cons, show cntL (countM t :: l.map countM) most n = if n ≤ most then cntL (l.map countM) most (n + countM t (most - n)) else n from rfl]
    split
    · exact jh _ (by omega)
    · exact h1
theorem count_le : ∀ t : J, Small 140737488355328 t → ∀ most, countM t most ≤ bd most := by
  refine J.ind ?_
  intro k s l m ihl ihm h most
  obtain ⟨⟨h1, -, -, h2⟩, h3, h4⟩ := (Small_mk ..).1 h
  rw [countM_mk]
  refine cntM_le (fun x hx => ihm x hx (h4 x hx)) h2 _ (cntL_pos _ (by omega)) (cntL_le (fun t ht => ihl t ht (h3 t ht)) _ (by omega) (by unfold bd; omega))
theorem drop_get {α : Type} {l : List α} {j : Nat} {t : α} (h : l[j]? = some t) : l.drop j = t :: l.drop (j + 1) := by
  obtain ⟨hj, rfl⟩ := List.getElem?_eq_some_iff.1 h
  exact List.drop_eq_getElem_cons hj
theorem cntL_at {l : List J} {j : Nat} {t : J} {most n : Nat} (h : l[j]? = some t) (hn : n ≤ most) : cntL ((l.drop j).map countM) most n = cntL ((l.drop (j + 1)).map countM) most (n + countM t (most - n)) := by
  rw [drop_get h, List.map_cons]
  exact if_pos hn
theorem cntM_at {m : List (List UInt8 × J)} {j : Nat} {x : List UInt8 × J} {most n : Nat} (h : m[j]? = some x) (hn : n ≤ most) :
    cntM ((m.drop j).map fun x => (x.1, countM x.2)) most n = cntM ((m.drop (j + 1)).map fun x => (x.1, countM x.2)) most (n + (x.1.length + countM x.2 (most - n))) := by
  rw [drop_get h, List.map_cons]
  exact if_pos hn
theorem get_lt {α : Type} {l : List α} {j : Nat} (h : j < l.length) : ∃ t, l[j]? = some t := ⟨_, List.getElem?_eq_getElem h⟩
/-- a value as a variable of its own -/
theorem val_box (w : World) (c0 c1 c2 c3 : Value) : ∃ W0, w.alloc (.cells #[c0, c1, c2, c3] 25) = W0 ∧ W0.heap.size = w.heap.size + 1 ∧ Below w.heap.size w W0 ∧ W0.cell? ⟨w.heap.size, 0, none⟩ = some c0 ∧ W0.cell? ⟨w.heap.size, 1, none⟩ = some c1 ∧ W0.cell? ⟨w.heap.size, 2, none⟩ = some c2 ∧ W0.cell? ⟨w.heap.size, 3, none⟩ = some c3 :=
  ⟨_, rfl, by rw [World.size_alloc], (Below.refl _ w).alloc (Nat.le_refl _) _, by rw [World.cell?_alloc_new]; rfl, by rw [World.cell?_alloc_new]; rfl, by rw [World.cell?_alloc_new]; rfl, by rw [World.cell?_alloc_new]; rfl⟩
/-- a list's element, wherever the world has gone -/
theorem elem_at {w : World} {a : Option Addr} {l : List J} (h : ∀ j t, l[j]? = some t → ∃ ba oa ds, a = some ⟨ba, oa, none⟩ ∧ CellsAt w ba (oa + j * 4) ds 4 ∧ VJ w t ds) {j : Nat} {t : J} (hj : l[j]? = some t) :
    ∃ ba oa c0 c1 c2 c3, a = some ⟨ba, oa, none⟩ ∧ ∀ W, Below w.heap.size w W → (W.cell? ⟨ba, oa + j * 4, none⟩ = some c0 ∧ W.cell? ⟨ba, oa + j * 4 + 1, none⟩ = some c1 ∧ W.cell? ⟨ba, oa + j * 4 + 2, none⟩ = some c2 ∧ W.cell? ⟨ba, oa + j * 4 + 3, none⟩ = some c3) ∧ VJ W t [c0, c1, c2, c3] := by
  obtain ⟨ba, oa, ds, rfl, hc, hv⟩ := h j t hj
  obtain ⟨c0, c1, c2, c3, rfl, -⟩ := cells4 hc
  refine ⟨ba, oa, c0, c1, c2, c3, rfl, fun W hb => ⟨?_, hv.below hb⟩⟩
  have hc' := hc.below hb
  exact ⟨hc'.2 0 _ rfl, hc'.2 1 _ rfl, hc'.2 2 _ rfl, hc'.2 3 _ rfl⟩
/-- an object's member, wherever the world has gone -/
theorem memb_at {w : World} {b : Option Addr} {m : List (List UInt8 × J)} (h : ∀ j x, m[j]? = some x → ∃ bb ob ds, b = some ⟨bb, ob, none⟩ ∧ CellsAt w bb (ob + j * 5) (.string (strL x.1) :: ds) 5 ∧ VJ w x.2 ds) {j : Nat} {x : List UInt8 × J} (hj : m[j]? = some x) :
    ∃ bb ob c0 c1 c2 c3, b = some ⟨bb, ob, none⟩ ∧ ∀ W, Below w.heap.size w W → (W.cell? ⟨bb, ob + j * 5, none⟩ = some (.string (strL x.1)) ∧ W.cell? ⟨bb, ob + j * 5 + 1, none⟩ = some c0 ∧ W.cell? ⟨bb, ob + j * 5 + 2, none⟩ = some c1 ∧ W.cell? ⟨bb, ob + j * 5 + 3, none⟩ = some c2 ∧ W.cell? ⟨bb, ob + j * 5 + 4, none⟩ = some c3) ∧ VJ W x.2 [c0, c1, c2, c3] := by
  obtain ⟨bb, ob, ds, rfl, hc, hv⟩ := h j x hj
  obtain ⟨c0, c1, c2, c3, rfl, -⟩ := cells5 hc
  refine ⟨bb, ob, c0, c1, c2, c3, rfl, fun W hb => ⟨?_, hv.below hb⟩⟩
  have hc' := hc.below hb
  exact ⟨hc'.2 0 _ rfl, hc'.2 1 _ rfl, hc'.2 2 _ rfl, hc'.2 3 _ rfl, hc'.2 4 _ rfl⟩
set_option maxRecDepth 20000 in
set_option maxHeartbeats 4000000 in
theorem count_any : ∀ t : J, Small 140737488355328 t → ∀ (cs : List Value) (w : World) (most : Nat), most ≤ 4000 → VJ w t cs →
    Calls Tryz.prog 26 #[.agg cs.toArray, .int .i64 most] w fun e w' => e = .returned (.int .i64 (countM t most)) ∧ Below w.heap.size w w' := by
  refine J.ind ?_
  intro k s l m ihl ihm hsm cs w most hmost hv
  obtain ⟨a, ca, b, cb, rfl, hL, hM⟩ := (VJ_mk ..).1 hv
  obtain ⟨⟨hs1, hs2, hs3, hs4⟩, hs5, hs6⟩ := (Small_mk ..).1 hsm
  obtain ⟨W0, hW0, hsz, hb0, e0, e1, e2, e3⟩ := val_box w (.int .i64 k) (.string (strL s)) (.slice a l.length ca) (.slice b m.length cb)
  have hss : (strL s).size = s.length := rfl
  generalize strL s = S at *
  have HLL : Hid (∀ (j : Nat) (t : J), l[j]? = some t → ∃ ba oa c0 c1 c2 c3, a = some ⟨ba, oa, none⟩ ∧ ∀ W, Below w.heap.size w W → (W.cell? ⟨ba, oa + j * 4, none⟩ = some c0 ∧ W.cell? ⟨ba, oa + j * 4 + 1, none⟩ = some c1 ∧ W.cell? ⟨ba, oa + j * 4 + 2, none⟩ = some c2 ∧ W.cell? ⟨ba, oa + j * 4 + 3, none⟩ = some c3) ∧ ∀ mo : Nat, mo ≤ 4000 → Calls Tryz.prog 26 #[.agg #[c0, c1, c2, c3], .int .i64 mo] W fun e w' => e = .returned (.int .i64 (countM t mo)) ∧ Below W.heap.size W w') := fun j t hj => by
    obtain ⟨ba, oa, c0, c1, c2, c3, e, h⟩ := elem_at hL hj
    exact ⟨ba, oa, c0, c1, c2, c3, e, fun W hb => ⟨(h W hb).1, fun mo hmo => ihl t (List.mem_of_getElem? hj) (hs5 t (List.mem_of_getElem? hj)) _ W mo hmo (h W hb).2⟩⟩
  have HMM : Hid (∀ (j : Nat) (x : List UInt8 × J), m[j]? = some x → ∃ bb ob c0 c1 c2 c3, b = some ⟨bb, ob, none⟩ ∧ ∀ W, Below w.heap.size w W → (W.cell? ⟨bb, ob + j * 5, none⟩ = some (.string (strL x.1)) ∧ W.cell? ⟨bb, ob + j * 5 + 1, none⟩ = some c0 ∧ W.cell? ⟨bb, ob + j * 5 + 2, none⟩ = some c1 ∧ W.cell? ⟨bb, ob + j * 5 + 3, none⟩ = some c2 ∧ W.cell? ⟨bb, ob + j * 5 + 4, none⟩ = some c3) ∧ ∀ mo : Nat, mo ≤ 4000 → Calls Tryz.prog 26 #[.agg #[c0, c1, c2, c3], .int .i64 mo] W fun e w' => e = .returned (.int .i64 (countM x.2 mo)) ∧ Below W.heap.size W w') := fun j x hj => by
    obtain ⟨bb, ob, c0, c1, c2, c3, e, h⟩ := memb_at hM hj
    exact ⟨bb, ob, c0, c1, c2, c3, e, fun W hb => ⟨(h W hb).1, fun mo hmo => ihm x (List.mem_of_getElem? hj) (hs6 x (List.mem_of_getElem? hj)) _ W mo hmo (h W hb).2⟩⟩
  have HCL : Hid (∀ (j : Nat) (t : J) (mo : Nat), l[j]? = some t → countM t mo ≤ bd mo) := fun j t mo hj => count_le t (hs5 t (List.mem_of_getElem? hj)) mo
  have HCM : Hid (∀ (j : Nat) (x : List UInt8 × J) (mo : Nat), m[j]? = some x → x.1.length ≤ 140737488355328 ∧ countM x.2 mo ≤ bd mo) := fun j x mo hj => ⟨hs4 x (List.mem_of_getElem? hj), count_le x.2 (hs6 x (List.mem_of_getElem? hj)) mo⟩
  have HE : Hid (∀ W, Below W0.heap.size W0 W → (W.cell? ⟨w.heap.size, 1, none⟩ = some (.string S) ∧ W.cell? ⟨w.heap.size, 2, none⟩ = some (.slice a l.length ca) ∧ W.cell? ⟨w.heap.size, 3, none⟩ = some (.slice b m.length cb)) ∧ Below w.heap.size w W) := fun W hb =>
    ⟨⟨(hb.cell (lt_of_cell e1)).trans e1, (hb.cell (lt_of_cell e2)).trans e2, (hb.cell (lt_of_cell e3)).trans e3⟩, hb0.trans (hb.mono hb0.size)⟩
  have HT : Hid (∀ W W', Below W0.heap.size W0 W → Below W.heap.size W W' → Below W0.heap.size W0 W') := below_tr
  obtain ⟨N1, hN1⟩ : ∃ N1, cntL (l.map countM) most (1 + s.length) = N1 := ⟨_, rfl⟩
  have HR : Hid (countM (.mk k s l m) most = cntM (m.map fun x => (x.1, countM x.2)) most N1) := by
    show _ = _
    rw [countM_mk, hN1]
  have hN1p : 1 ≤ N1 := by rw [← hN1]; exact cntL_pos _ (by omega)
  have hN1b : N1 ≤ bd most := by rw [← hN1]; exact cntL_le (fun t ht => count_le t (hs5 t ht)) _ (by omega) (by unfold bd; omega)
  have HN1 := Hid.mk' hN1
  have hbs : 1 + s.length ≤ bd most := by unfold bd; omega
  have hbd : bd most ≤ 563231828400000000 := by unfold bd; omega
  have HBS : Hid (∀ n c : Nat, 1 ≤ n → n ≤ most → c ≤ bd (most - n) → n + (140737488355328 + c) ≤ bd most) := fun n c => bd_step
  generalize bd most = BD at *
  generalize countM (.mk k s l m) most = R at *
  clear hN1 ihl ihm hL hM hv hsm hs4 hs5 hs6 e1 e2 e3 e0
  obtain ⟨d1, d2, d3⟩ := (HE.out W0 (Below.refl _ _)).1
  have hstart : Below W0.heap.size W0 W0 := Below.refl _ _
  go_enter Tryz.func26, Tryz.ntmps26
  go_wp2
  go_loopw [5, 6] (fun x5 x6 wr => ∃ (j n : Nat), x5 = .int .i64 n ∧ x6 = .int .i64 j ∧ j ≤ l.length ∧ 1 ≤ n ∧ n ≤ BD ∧ Hid (cntL ((l.drop j).map countM) most n = N1) ∧ Below W0.heap.size W0 wr) (fun _ x6 _ => l.length - (intOf x6).toNat)
  case atStart => exact ⟨0, 1 + s.length, by go_num, rfl, Nat.zero_le _, by omega, hbs, HN1, hstart⟩
  case round =>
    obtain ⟨j, n, rfl, rfl, hj, hn1, hnb, HCN, hbr⟩ := hrel
    obtain ⟨f1, f2, f3⟩ := (HE.out _ hbr).1
    by_cases hgo : j < l.length ∧ n ≤ most
    · obtain ⟨hlt, hnm⟩ := hgo
      · obtain ⟨t, ht⟩ := get_lt hlt
        obtain ⟨ba, oa, c0, c1, c2, c3, rfl, HX⟩ := HLL.out j t ht
        obtain ⟨⟨g0, g1, g2, g3⟩, -⟩ := HX _ (HE.out _ hbr).2
        have HX1 : Hid (∀ W, Below W0.heap.size W0 W → Calls Tryz.prog 26 #[.agg #[c0, c1, c2, c3], .int .i64 ((most : Int) - n)] W fun e w' => e = .returned (.int .i64 (countM t (most - n))) ∧ Below W.heap.size W w') := fun W hb => by
          have := (HX W (HE.out _ hb).2).2 (most - n) (by omega)
          rw [show ((most - n : Nat) : Int) = (most : Int) - n from by omega] at this
          exact this
        have hcl := HBS.out n _ hn1 hnm (HCL.out j t (most - n) ht)
        have HC2 : Hid (cntL ((l.drop (j + 1)).map countM) most (n + countM t (most - n)) = N1) := (cntL_at ht hnm).symm.trans HCN.out
        generalize countM t (most - n) = c at *
        clear HX HLL HMM HCL HCM HCN ht
        go_wp2_with fail
        refine (HX1.out _ hbr).mono ?_
        rintro e w1 ⟨rfl, hb1⟩
        have hz1 := HT.out _ _ hbr hb1
        clear HX1 g0 g1 g2 g3 f1 f2 f3 hbr hb1
        go_wp2
        go_roundw
        case rel => exact ⟨j + 1, n + c, by go_num, by go_num, by omega, by omega, by omega, HC2, hz1⟩
        case measure => simp [intOf]; omega
    · have hnd : N1 = n := by
        rw [← HCN.out]
        rcases Nat.lt_or_ge j l.length with g | g
        · exact cntL_done (by omega)
        · rw [List.drop_eq_nil_of_le g]; rfl
      have hx : (j < l.length ∧ decide (n ≤ most) = false) ∨ l.length ≤ j := by rw [decide_eq_false_iff_not]; omega
      subst hnd
      clear HLL HCL HCN hgo HN1
      rcases hx with ⟨hx, hx'⟩ | hx
      all_goals
        go_wp2
        go_loopw [5, 7] (fun x5 x7 wr => ∃ (j n : Nat), x5 = .int .i64 n ∧ x7 = .int .i64 j ∧ j ≤ m.length ∧ 1 ≤ n ∧ n ≤ BD ∧ Hid (R = cntM ((m.drop j).map fun x => (x.1, countM x.2)) most n) ∧ Below W0.heap.size W0 wr) (fun _ x7 _ => m.length - (intOf x7).toNat)
        case atStart => exact ⟨0, N1, rfl, rfl, Nat.zero_le _, hN1p, hN1b, HR, hbr⟩
        case round =>
          clear HR hnb hn1 hbr f1 f2 f3
          obtain ⟨j, n, rfl, rfl, hj, hn1, hnb, HCN, hbr⟩ := hrel
          obtain ⟨f1, f2, f3⟩ := (HE.out _ hbr).1
          by_cases hgo : j < m.length ∧ n ≤ most
          · obtain ⟨hlt, hnm⟩ := hgo
            obtain ⟨x, ht⟩ := get_lt hlt
            obtain ⟨bb, ob, c0, c1, c2, c3, rfl, HX⟩ := HMM.out j x ht
            have HX1 : Hid (∀ W, Below W0.heap.size W0 W → Calls Tryz.prog 26 #[.agg #[c0, c1, c2, c3], .int .i64 ((most : Int) - n)] W fun e w' => e = .returned (.int .i64 (countM x.2 (most - n))) ∧ Below W.heap.size W w') := fun W hb => by
              have := (HX W (HE.out _ hb).2).2 (most - n) (by omega)
              rw [show ((most - n : Nat) : Int) = (most : Int) - n from by omega] at this
              exact this
            obtain ⟨hxs, hxc⟩ := HCM.out j x (most - n) ht
            have hcl := HBS.out n _ hn1 hnm hxc
            have HC2 : Hid (R = cntM ((m.drop (j + 1)).map fun x => (x.1, countM x.2)) most (n + (x.1.length + countM x.2 (most - n)))) := HCN.out.trans (cntM_at ht hnm)
            have hxz : (strL x.1).size = x.1.length := rfl
            generalize strL x.1 = X at *
            have HXC : Hid (∀ W, Below W0.heap.size W0 W → (W.cell? ⟨w.heap.size, 3, none⟩ = some (.slice (some ⟨bb, ob, none⟩) m.length cb)) ∧ W.cell? ⟨bb, ob + j * 5, none⟩ = some (.string X) ∧ W.cell? ⟨bb, ob + j * 5 + 1, none⟩ = some c0 ∧ W.cell? ⟨bb, ob + j * 5 + 2, none⟩ = some c1 ∧ W.cell? ⟨bb, ob + j * 5 + 3, none⟩ = some c2 ∧ W.cell? ⟨bb, ob + j * 5 + 4, none⟩ = some c3) := fun W hb => ⟨(HE.out W hb).1.2.2, (HX W (HE.out W hb).2).1⟩
            generalize countM x.2 (most - n) = c at *
            generalize x.1.length = xl at *
            clear HX HMM HCM HCN ht
            have hbrd := hbr.drew
            have hw1 : IntKind.i64.wrap ((most : Int) - n) = (most : Int) - n := wrap_i64 (by omega) (by omega)
            have hw2 : IntKind.i64.wrap ((xl : Int) + c) = (xl : Int) + c := wrap_i64 (by omega) (by omega)
            have hw3 : IntKind.i64.wrap ((n : Int) + ((xl : Int) + c)) = (n : Int) + ((xl : Int) + c) := wrap_i64 (by omega) (by omega)
            go_wp2
            go_region_held3 (fun W' => (W'.cell? ⟨w.heap.size, 3, none⟩ = some (.slice (some ⟨bb, ob, none⟩) m.length cb)) ∧ W'.cell? ⟨bb, ob + j * 5, none⟩ = some (.string X) ∧ W'.cell? ⟨bb, ob + j * 5 + 1, none⟩ = some c0 ∧ W'.cell? ⟨bb, ob + j * 5 + 2, none⟩ = some c1 ∧ W'.cell? ⟨bb, ob + j * 5 + 3, none⟩ = some c2 ∧ W'.cell? ⟨bb, ob + j * 5 + 4, none⟩ = some c3) (exact HXC.out _ (by assumption)) (first
              | (go_at_call 26; refine (HX1.out _ (by assumption)).mono ?_; rintro e wD ⟨rfl, hbD⟩; have hzD := HT.out _ _ (by assumption) hbD))
            clear HX1 HXC hbrd f1 f2 f3 hbr
            go_wp2
            go_roundw
            case rel =>
              have hfin : ∃ (j' n' : Nat), Value.int .i64 ((n : Int) + ((xl : Int) + c)) = .int .i64 n' ∧ Value.int .i64 ((j : Int) + 1) = .int .i64 j' ∧ j' ≤ m.length ∧ 1 ≤ n' ∧ n' ≤ BD ∧ Hid (R = cntM ((m.drop j').map fun x => (x.1, countM x.2)) most n') ∧ Below W0.heap.size W0 wD := ⟨j + 1, n + (xl + c), by go_num, by go_num, by omega, by omega, by omega, HC2, hzD⟩
              first | exact hfin | ((repeat apply Exists.intro); exact ⟨hfin, rfl⟩)
            case measure => simp [intOf]; omega
          · have hnd : R = n := by
              rw [HCN.out]
              rcases Nat.lt_or_ge j m.length with g | g
              · exact cntM_done (by omega)
              · rw [List.drop_eq_nil_of_le g]; rfl
            have hxx : (j < m.length ∧ decide (n ≤ most) = false) ∨ m.length ≤ j := by rw [decide_eq_false_iff_not]; omega
            have hfin := (HE.out _ hbr).2
            subst hnd
            clear HMM HCM HCN hgo
            rcases hxx with ⟨hxx, hxx'⟩ | hxx
            all_goals
              go_wp2
              go_ret
              exact ⟨rfl, hfin⟩
end Go.Proofs.YtjjoedkigjekcaaGreatDoor

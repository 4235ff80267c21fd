/-
  What is proved here: what comp.Same answers. · append of whatever row of runes to one of the call's own; three lists by their values; a row of runes as an argument, whose nil is a nil of length 0 and capacity 0. · that DecompStays answers true at every norm and two lists of runes.
-/
import Derived.Test.YtojpkkbagcahdaaDoorKC
import Derived.Laws.AppendOwnNone
import Derived.Laws.AppendOwn
namespace Go.Proofs.YtojpkkbagcahdaaDoor
open Go.RowKit

theorem runes_inj {w : World} {v : Value} {l m : List Int} (h1 : Runes w v l) (h2 : Runes w v m) : l = m := by
  obtain ⟨a, c, rfl, h1⟩ := h1
  obtain ⟨a', c', e, h2⟩ := h2
  injection e with e1 e2 e3
  subst e1
  refine List.ext_getElem e2 fun i i1 i2 => ?_
  obtain ⟨b, off, rfl, q1⟩ := h1 i i1
  obtain ⟨b', off', e4, q2⟩ := h2 i i2
  injection e4 with e4
  injection e4 with e5 e6
  subst e5 e6
  rw [q1] at q2
  simpa [List.getD, i1, i2] using q2
theorem two_lists {w : World} {v v' : Value} {l m : List Int} (h1 : Runes w v l) (h2 : Runes w v' m) : ∃ LL : Value → List Int, LL v = l ∧ LL v' = m := by
  by_cases h : v' = v
  · subst h
    exact ⟨fun _ => l, rfl, runes_inj h1 h2⟩
  · haveI := Classical.propDecidable
    exact ⟨fun x => if x = v then l else m, if_pos rfl, if_neg h⟩
set_option maxRecDepth 20000 in
set_option maxHeartbeats 8000000 in
theorem compSame_any (a : Option Addr) (cap : Nat) (vc ve : Value) (t : Nm) (vl vm : Value) (l m : List Int) (w : World) (hg : Hg w) (hN : NormAt w a cap vc ve t) (hvl : Runes w vl l) (hvm : Runes w vm m) (hl : (apartM t.rows l).length ≤ 2147483) (hm : (apartM t.rows m).length ≤ 2147483) (hll : l.length ≤ 2147483) (hlm : m.length ≤ 2147483) :
    Calls Tryd.prog 18 #[.agg #[.slice a t.rows.length cap, vc, ve], vl, vm] w fun e w' => e = .returned (.bool (decM t l == decM t m)) ∧ Below w.heap.size w w' := by
  have mixed : Tryd.prog.follows .mixedOrders = true := by kernel_rfl
  obtain ⟨W0, hW0, hsz, hb0, e0, e1, e2⟩ := norm_box w (.slice a t.rows.length cap) vc ve
  obtain ⟨ca, ccap, rfl, -⟩ := id hN.C
  obtain ⟨ea, ecap, rfl, -⟩ := id hN.E
  obtain ⟨ql, cl, rfl, -⟩ := id hvl
  obtain ⟨qm, cm, rfl, -⟩ := id hvm
  have HEE : Hid (∀ W, Below W0.heap.size W0 W → (W.cell? ⟨w.heap.size, 0, none⟩ = some (.slice a t.rows.length cap) ∧ W.cell? ⟨w.heap.size, 1, none⟩ = some (.slice ca t.cls.length ccap) ∧ W.cell? ⟨w.heap.size, 2, none⟩ = some (.slice ea t.exc.length ecap)) ∧ Below w.heap.size w W) := fun W hb => ⟨⟨(hb.cell (lt_of_cell e0)).trans e0, (hb.cell (lt_of_cell e1)).trans e1, (hb.cell (lt_of_cell e2)).trans e2⟩, hb0.trans (hb.mono hb0.size)⟩
  obtain ⟨LL, hLA, hLB⟩ := two_lists hvl hvm
  have HLA := Hid.mk' hLA
  have HLB := Hid.mk' hLB
  have HAL : Hid (∀ W v, Below w.heap.size w W → (v = Value.slice ql l.length cl ∨ v = Value.slice qm m.length cm) → _) := fun W v hb hh => decAll_any a cap (.slice ca t.cls.length ccap) (.slice ea t.exc.length ecap) t v (LL v) W (hg.below hb) (hN.below hb) (by rcases hh with rfl | rfl; rw [hLA]; exact hvl.below hb; rw [hLB]; exact hvm.below hb) (by rcases hh with rfl | rfl; rw [hLA]; exact hl; rw [hLB]; exact hm) (by rcases hh with rfl | rfl; rw [hLA]; exact hll; rw [hLB]; exact hlm)
  have HEQ : Hid (∀ W vx vy, Runes W vx (decM t l) → Runes W vy (decM t m) → _) := fun W vx vy h1 h2 => equal_any vx vy (decM t l) (decM t m) W (by rw [decM_len]; omega) h1 h2
  generalize (decM t l == decM t m) = q at HEQ ⊢
  have hz := HEE.out W0.drew (Below.refl _ _).drew
  have hzb : Below W0.heap.size W0 W0.drew := (Below.refl _ _).drew
  have HTR : Hid (∀ W W', Below W0.heap.size W0 W → Below W.heap.size W W' → Below W0.heap.size W0 W') := fun W W' h h' => h.trans (h'.mono h.size)
  clear hg hN hvl hvm hl hm hll hlm hb0 e0 e1 e2 hLA hLB
  go_enter Tryd.func18, Tryd.ntmps18
  go_wp2
  go_region_held3 (fun w' => (w'.cell? ⟨w.heap.size, 0, none⟩ = some (.slice a t.rows.length cap) ∧ w'.cell? ⟨w.heap.size, 1, none⟩ = some (.slice ca t.cls.length ccap) ∧ w'.cell? ⟨w.heap.size, 2, none⟩ = some (.slice ea t.exc.length ecap))) (first | exact hz.1 | exact (HEE.out _ (by assumption)).1) (first
    | (go_at_call 12; refine (HAL.out _ _ ?_ ?_).mono ?_; exact (HEE.out _ (by assumption)).2; (first | exact .inl rfl | exact .inr rfl); (try (have rP := rA)); rintro e wA ⟨vA, rfl, hoA, hbA⟩; (first | rw [HLA.out] at hoA | rw [HLB.out] at hoA); obtain ⟨aA, cA, rfl⟩ := own_slice hoA; have rA := Runes.own hoA; have hzA := HTR.out _ _ (by assumption) hbA; (try (have rQ := rP.below hbA)))
    | (go_at_call 33; refine (HEQ.out _ _ _ ?_ ?_).mono ?_; assumption; assumption; rintro e wE ⟨rfl, hbE⟩; have hzE := HTR.out _ _ (by assumption) hbE))
  all_goals
    go_wp2
    go_ret
    exact ⟨rfl, (HEE.out _ (by assumption)).2⟩
end Go.Proofs.YtojpkkbagcahdaaDoor
namespace Go.Proofs.YtojpkkbagcahdaaDoor
open Go.RowKit

/-- a slice value that holds runes; a nil one has no room -/
def RunesZ (w : World) (v : Value) (rs : List Int) : Prop := Runes w v rs ∧ ∀ n c, v = .slice none n c → c = 0
theorem RunesZ.own {w : World} {B : Nat} {v : Value} {rs : List Int} (h : w.ownsRow B 21 1 v rs.length (rs.map (Value.int .i32))) : RunesZ w v rs := by
  refine ⟨Runes.own h, fun n c e => ?_⟩
  rcases h.2 with ⟨e1, _⟩ | ⟨g, cap, cur, e1, _⟩
  · rw [e1] at e; injection e with _ _ e3; exact e3.symm
  · rw [e1] at e; injection e with e2; cases e2
theorem RunesZ.below {w w' : World} {v : Value} {rs : List Int} (h : RunesZ w v rs) (hb : Below w.heap.size w w') : RunesZ w' v rs := ⟨h.1.below hb, h.2⟩
set_option maxRecDepth 20000 in
theorem wpList_append_runes {ops : Array Oper} {rest : List Oper} {o : Oper} {a : Act} {w : World} {Q : Exit → Act → World → Prop} (hgd : o.guard = none) (s x : Operand)
    (ho : o.op = .call { callee := .builtin .append, args := #[s, x], argTypes := #[24, 24] })
    (base : Nat) (v : Value) (xs : List Int) (hs : a.eval s = v) (hown : w.ownsRow base 21 1 v xs.length (xs.map (Value.int .i32)))
    (vx : Value) (ys : List Int) (hx : a.eval x = vx) (hR : RunesZ w vx ys) (hlen : xs.length + ys.length ≤ 100000) (hbase : base ≤ w.heap.size)
    (h : ∀ v' w', w'.ownsRow base 21 1 v' (xs ++ ys).length ((xs ++ ys).map (Value.int .i32)) → w.grownBy w' v.ownBlock → wpList Tryd.prog ops Q rest (a.put o.dst v') w') : wpList Tryd.prog ops Q (o :: rest) a w := by
  obtain ⟨i0, hi, hz0, hz1, hz2⟩ := info_parts Tryd.infoRune
  obtain ⟨⟨ad, c, rfl, hc⟩, hn⟩ := hR
  cases ad with
  | none =>
    obtain rfl := hn _ _ rfl
    obtain rfl : ys = [] := by
      cases ys with
      | nil => rfl
      | cons y ys => obtain ⟨b, off, e, _⟩ := hc 0 (by simp); cases e
    refine wpList_append_own_none hgd s x 24 ho base 21 i0 1 Tryd.underlying24 hi v xs.length (xs.map (Value.int .i32)) hs hown hx ?_
    exact h v w (by simpa using hown) (World.grownBy.refl _ _)
  | some ad =>
    refine wpList_append_own _ hgd s x 24 ho base 21 i0 (.int .i32 0) 1 4 Tryd.underlying24 hi hz0 hz1 hz2 rfl (by decide) v xs.length (xs.map (Value.int .i32)) hs hown ad ys.length c (ys.map (Value.int .i32)) hx (by simp) ?_ (ints_one .i32 ys) (by unfold maxLen; omega) (by omega) hbase ?_
    · intro j u hj
      have hjl : j < ys.length := by
        rcases Nat.lt_or_ge j ys.length with q | q
        · exact q
        · rw [List.getElem?_eq_none (by simpa using q)] at hj; cases hj
      obtain ⟨b, off, e, hcell⟩ := hc j hjl
      obtain rfl : ad = ⟨b, off, none⟩ := by simpa using e
      rw [List.getElem?_map, List.getElem?_eq_getElem hjl] at hj
      simp only [Option.map_some, Option.some.injEq] at hj
      rw [Addr.add_lit]
      rw [hcell, ← hj]
      simp [List.getD, List.getElem?_eq_getElem hjl]
    · intro v' w' h1 h2 _
      exact h v' w' (by simpa using h1) h2
theorem three_lists {w : World} {v1 v2 v3 : Value} {l1 l2 l3 : List Int} (h1 : Runes w v1 l1) (h2 : Runes w v2 l2) (h3 : Runes w v3 l3) : ∃ LL : Value → List Int, LL v1 = l1 ∧ LL v2 = l2 ∧ LL v3 = l3 := by
  haveI := Classical.propDecidable
  refine ⟨fun x => if x = v1 then l1 else if x = v2 then l2 else l3, if_pos rfl, ?_, ?_⟩
  · by_cases e : v2 = v1
    · subst e; simp [runes_inj h1 h2]
    · simp [e]
  · by_cases e : v3 = v1
    · subst e; simp [runes_inj h1 h3]
    · by_cases e' : v3 = v2
      · subst e'; simp [e, runes_inj h2 h3]
      · simp [e, e']
end Go.Proofs.YtojpkkbagcahdaaDoor
namespace Go.Proofs.YtojpkkbagcahdaaDoor
open Go.RowKit

set_option maxRecDepth 20000 in
set_option maxHeartbeats 16000000 in
theorem dstays_any (w : World) (p : Nat → Addr) (hg : Gl p w) (a : Option Addr) (cap : Nat) (vc ve : Value) (t : Nm) (hcap : t.rows.length ≤ cap) (hR : Rows4 w (.slice a t.rows.length cap) t.rows) (hC : Tab w vc t.cls) (hE : Runes w ve t.exc) (vl : Value) (l : List Int) (hvzl : RunesZ w vl l) (vm : Value) (m : List Int) (hvzm : RunesZ w vm m) :
    Calls Tryd.prog 4 #[.agg #[.slice a t.rows.length cap, vc, ve], vl, vm] w fun e w' => e = .returned (.bool true) ∧ Below w.heap.size w w' := by
  obtain ⟨W0, hW0, hsz, hb0, e0, e1, e2⟩ := norm_box w (.slice a t.rows.length cap) vc ve
  have HA := Hid.mk' (awake4_any W0 p (hg.below hb0))
  have HGr : Hid (∀ W, Below w.heap.size w W → _) := fun W hb => great_any (.slice a t.rows.length cap) vc ve t W (hR.below hb) (hC.below hb) (hE.below hb)
  obtain ⟨ca, ccap, rfl, -⟩ := id hC
  obtain ⟨ea, ecap, rfl, -⟩ := id hE
  have HEE : Hid (∀ W, Below W0.heap.size W0 W → (W.cell? ⟨w.heap.size, 0, none⟩ = some (.slice a t.rows.length cap) ∧ W.cell? ⟨w.heap.size, 1, none⟩ = some (.slice ca t.cls.length ccap) ∧ W.cell? ⟨w.heap.size, 2, none⟩ = some (.slice ea t.exc.length ecap)) ∧ Below w.heap.size w W) := fun W hb => ⟨⟨(hb.cell (lt_of_cell e0)).trans e0, (hb.cell (lt_of_cell e1)).trans e1, (hb.cell (lt_of_cell e2)).trans e2⟩, hb0.trans (hb.mono hb0.size)⟩
  obtain ⟨hvl, hzl⟩ := hvzl
  obtain ⟨ql, cl, rfl, -⟩ := id hvl
  obtain ⟨hvm, hzm⟩ := hvzm
  obtain ⟨qm, cm, rfl, -⟩ := id hvm
  cases hgr : greatM t
  rotate_left
  · rw [hgr] at HGr
    clear hgr hg hR hC hE hvl hzl hvm hzm
    go_enter Tryd.func4, Tryd.ntmps4
    go_wp2_with fail
    refine HA.out.mono ?_
    rintro e w1 ⟨rfl, hb1⟩
    obtain ⟨⟨x0, x1, x2⟩, hbw1⟩ := HEE.out w1 hb1
    go_wp2_with fail
    refine (HGr.out w1 hbw1).mono ?_
    rintro e w2 ⟨rfl, hb2⟩
    go_wp2
    go_ret
    exact ⟨rfl, hbw1.trans (hb2.mono hbw1.size)⟩
  obtain ⟨hl1, hl2, hl3, hl4⟩ := great_false hgr
  rw [hgr] at HGr
  by_cases hlll : 12 < l.length
  · have hdl : decide ((12 : Int) < (l.length : Int)) = true := decide_eq_true (by omega)
    clear hgr hg hR hC hE hl4 hvl hzl hvm hzm
    go_enter Tryd.func4, Tryd.ntmps4
    go_wp2_with fail
    refine HA.out.mono ?_
    rintro e w1 ⟨rfl, hb1⟩
    obtain ⟨⟨x0, x1, x2⟩, hbw1⟩ := HEE.out w1 hb1
    go_wp2_with fail
    refine (HGr.out w1 hbw1).mono ?_
    rintro e w2 ⟨rfl, hb2⟩
    go_wp2
    go_ret
    exact ⟨rfl, hbw1.trans (hb2.mono hbw1.size)⟩
  have hdl : decide ((12 : Int) < (l.length : Int)) = false := decide_eq_false (by omega)
  by_cases hllm : 12 < m.length
  · have hdm : decide ((12 : Int) < (m.length : Int)) = true := decide_eq_true (by omega)
    clear hgr hg hR hC hE hl4 hvl hzl hvm hzm
    go_enter Tryd.func4, Tryd.ntmps4
    go_wp2_with fail
    refine HA.out.mono ?_
    rintro e w1 ⟨rfl, hb1⟩
    obtain ⟨⟨x0, x1, x2⟩, hbw1⟩ := HEE.out w1 hb1
    go_wp2_with fail
    refine (HGr.out w1 hbw1).mono ?_
    rintro e w2 ⟨rfl, hb2⟩
    go_wp2
    go_ret
    exact ⟨rfl, hbw1.trans (hb2.mono hbw1.size)⟩
  have hdm : decide ((12 : Int) < (m.length : Int)) = false := decide_eq_false (by omega)
  by_cases hx : (chk4 t).2 = 0
  rotate_left
  · have HK : Hid (∀ W, Below w.heap.size w W → _) := fun W hb => checkErr_any a cap (.slice ca t.cls.length ccap) (.slice ea t.exc.length ecap) t hcap W p (hg.below hb) (hR.below hb) (hC.below hb) (hE.below hb) hl1 hl2 hl3 hl4 hx
    clear hgr hg hR hC hE hl4 hvl hzl hvm hzm hx
    go_enter Tryd.func4, Tryd.ntmps4
    go_wp2_with fail
    refine HA.out.mono ?_
    rintro e w1 ⟨rfl, hb1⟩
    obtain ⟨⟨x0, x1, x2⟩, hbw1⟩ := HEE.out w1 hb1
    go_wp2_with fail
    refine (HGr.out w1 hbw1).mono ?_
    rintro e w2 ⟨rfl, hb2⟩
    have hb02 := hb1.trans (hb2.mono hb1.size)
    obtain ⟨⟨y0, y1, y2⟩, hbw2⟩ := HEE.out w2 hb02
    clear x0 x1 x2 e0 e1 e2
    go_wp2_with fail
    refine (HK.out w2 hbw2).mono ?_
    rintro e w3 ⟨b3, rfl, hb3⟩
    go_wp2
    go_ret
    exact ⟨rfl, hbw2.trans (hb3.mono hbw2.size)⟩
  have HK : Hid (∀ W, Below w.heap.size w W → _) := fun W hb => checkNil_any a cap (.slice ca t.cls.length ccap) (.slice ea t.exc.length ecap) t hcap W p (hg.below hb) (hR.below hb) (hC.below hb) (hE.below hb) hl1 hl2 hl3 hl4 hx
  have hri4 := right4 hx
  have hN : NormAt w a cap (.slice ca t.cls.length ccap) (.slice ea t.exc.length ecap) t := ⟨hR, hC, hE, by omega, hcap, hri4⟩
  have hgg := hg.hg
  have mixed : Tryd.prog.follows .mixedOrders = true := by kernel_rfl
  obtain ⟨i0, hi, hz0, hz1, hz2⟩ := info_parts Tryd.infoRune
  have hal : (apartM t.rows l).length ≤ 800 := by
    have h1 := apart_len hri4.row l
    have h2 : l.length * (t.rows.length + 3) ≤ 12 * 43 := Nat.mul_le_mul (by omega) (by omega)
    omega
  have hdl2 : (decM t l).length ≤ 800 := by rw [decM_len]; exact hal
  have ham : (apartM t.rows m).length ≤ 800 := by
    have h1 := apart_len hri4.row m
    have h2 : m.length * (t.rows.length + 3) ≤ 12 * 43 := Nat.mul_le_mul (by omega) (by omega)
    omega
  have hdm2 : (decM t m).length ≤ 800 := by rw [decM_len]; exact ham
  have hae : ∀ k : List Int, k.length ≤ 1600 → (apartM t.rows k).length ≤ 100000 := fun k hk => by
    have h1 := apart_len hri4.row k
    have h2 : k.length * (t.rows.length + 3) ≤ 1600 * 43 := Nat.mul_le_mul hk (by omega)
    omega
  have HAL : Hid (∀ W v k, Below w.heap.size w W → Runes W v k → k.length ≤ 1600 → _) := fun W v k hb hr hk => decAll_any a cap (.slice ca t.cls.length ccap) (.slice ea t.exc.length ecap) t v k W (hgg.below hb) (hN.below hb) hr (by have := hae k hk; omega) (by omega)
  have HIS : Hid (∀ W v, Below w.heap.size w W → Runes W v (decM t l) → Calls Tryd.prog 13 #[.agg #[.slice a t.rows.length cap, .slice ca t.cls.length ccap, .slice ea t.exc.length ecap], v] W fun e w' => e = .returned (.bool true) ∧ Below W.heap.size W w') := fun W v hb hr => by
    obtain ⟨-, -, hap, hrs⟩ := right_parts hri4.cls
    have := is_any a cap (.slice ca t.cls.length ccap) (.slice ea t.exc.length ecap) t.rows hcap t.cls v (decM t l) W (hgg.below hb) (hR.below hb) (by omega) hri4.row (hC.below hb) (by omega) hrs hap hr (by have := hae (decM t l) (by omega); omega) (by omega)
    have e : (orderM (classOf t.cls) (apartM t.rows (decM t l)) == decM t l) = true := by have := dec_dec hri4.row l; unfold decM at this ⊢; rw [this]; exact beq_self_eq_true _
    rw [e] at this; exact this
  have HV1 : Hid (∀ W, Below w.heap.size w W → RunesZ W (.slice ql l.length cl) l) := fun W hb => ⟨hvl.below hb, hzl⟩
  have HV2 : Hid (∀ W, Below w.heap.size w W → RunesZ W (.slice qm m.length cm) m) := fun W hb => ⟨hvm.below hb, hzm⟩
  have HS1 : Hid (∀ W vx vy, Runes W vx (decM t l) → Runes W vy (decM t l) → _) := fun W vx vy h1 h2 => same_any vx vy (decM t l) W (by omega) h1 h2
  have hbl : (decM t (l ++ m)).length ≤ 100000 := by rw [decM_len]; exact hae (l ++ m) (by simp; omega)
  have HS2 : Hid (∀ W vx vy, Runes W vx (decM t (l ++ m)) → Runes W vy (decM t (l ++ m)) → _) := fun W vx vy h1 h2 => same_any vx vy (decM t (l ++ m)) W (by omega) h1 h2
  have HDD : Hid (decM t (decM t l) = decM t l) := dec_dec hri4.row l
  have HDA : Hid (decM t (decM t l ++ decM t m) = decM t (l ++ m)) := dec_append hri4.row l m
  have HLN : Hid (l.length ≤ 12 ∧ m.length ≤ 12 ∧ (decM t l).length ≤ 800 ∧ (decM t m).length ≤ 800) := ⟨by omega, by omega, hdl2, hdm2⟩
  clear hal ham hae hbl hdl2 hdm2
  clear hgr hg hR hC hE hl4 hvl hzl hvm hzm hx hri4 hN hgg
  go_enter Tryd.func4, Tryd.ntmps4
  go_wp2_with fail
  refine HA.out.mono ?_
  rintro e w1 ⟨rfl, hb1⟩
  obtain ⟨⟨x0, x1, x2⟩, hbw1⟩ := HEE.out w1 hb1
  go_wp2_with fail
  refine (HGr.out w1 hbw1).mono ?_
  rintro e w2 ⟨rfl, hb2⟩
  have hb02 := hb1.trans (hb2.mono hb1.size)
  obtain ⟨⟨y0, y1, y2⟩, hbw2⟩ := HEE.out w2 hb02
  clear x0 x1 x2 e0 e1 e2
  go_wp2_with fail
  refine (HK.out w2 hbw2).mono ?_
  rintro e w3 ⟨rfl, hb3⟩
  have hb03 := hb02.trans (hb3.mono hb02.size)
  obtain ⟨⟨z0, z1, z2⟩, hbw3⟩ := HEE.out w3 hb03
  clear y0 y1 y2 HA HGr HK hb1 hb2 hb3 hbw1 hbw2 hb02
  go_wp2_with fail
  refine (HAL.out w3 _ l hbw3 (HV1.out w3 hbw3).1 (by have := HLN.out; omega)).mono ?_
  rintro e w4 ⟨v4, rfl, ho4, hb4⟩
  obtain ⟨a4, c4, rfl⟩ := own_slice ho4
  have r4 := Hid.mk' (Runes.own ho4)
  have hb04 := hb03.trans (hb4.mono hb03.size)
  obtain ⟨⟨z0, z1, z2⟩, hbw4⟩ := HEE.out w4 hb04
  clear r4
  have Z4 := Hid.mk' (RunesZ.own ho4)
  clear ho4
  go_wp2_with fail
  refine (HAL.out w4 _ m hbw4 (HV2.out w4 hbw4).1 (by have := HLN.out; omega)).mono ?_
  rintro e w5 ⟨v5, rfl, ho5, hb5⟩
  obtain ⟨a5, c5, rfl⟩ := own_slice ho5
  have r5 := Hid.mk' (Runes.own ho5)
  have hb05 := hb04.trans (hb5.mono hb04.size)
  obtain ⟨⟨z0, z1, z2⟩, hbw5⟩ := HEE.out w5 hb05
  clear r5
  have Z5 := Hid.mk' (RunesZ.own ho5)
  clear ho5
  have X5 := Hid.mk' (Z4.out.below hb5)
  have T5 := Hid.mk' hbw5
  have U5 := Hid.mk' hb05
  clear z0 z1 z2 hb4 hb5 hb03 hb04 hbw3 hbw4 Z4
  have O6 := Hid.mk' (own_new w5 w5.heap.size [] 21 (Nat.le_refl _) (by simp))
  have B6 : Hid (Below w5.heap.size w5 (w5.alloc (.cells #[] 21))) := (Below.refl _ _).alloc (Nat.le_refl _) _
  have V6 : Hid (RunesZ (w5.alloc (.cells #[] 21)) (.slice ql l.length cl) l) := HV1.out _ (T5.out.trans (B6.out.mono T5.out.size))
  obtain ⟨lm, hlm⟩ : ∃ x, x = l ++ m := ⟨_, rfl⟩
  obtain ⟨pm, hpm⟩ : ∃ x, x = decM t l ++ decM t m := ⟨_, rfl⟩
  have Hlm := Hid.mk' hlm
  have Hpm := Hid.mk' hpm
  clear hlm hpm
  go_wp2_with (first
    | (at_builtin; (refine wpList_append_runes rfl _ _ rfl w5.heap.size _ [] rfl O6.out _ l rfl V6.out (by have := HLN.out; simp; omega) (by first | (simp; done) | (simp; omega) | exact B6.out.size) ?_); intro v7 w7 ho7 hg7; have O7 : Hid (w7.ownsRow w5.heap.size 21 1 v7 l.length (l.map (Value.int .i32))) := (by show World.ownsRow _ _ _ _ _ _ _; simpa using ho7); have B7 : Hid (Below w5.heap.size w5 w7) := B6.out.grown hg7 (by first | (simp; done) | (simp; omega) | exact B6.out.size) (fun j hj => (O6.out.lt j hj).1); obtain ⟨a7, c7, rfl⟩ := own_slice O7.out; clear ho7 hg7; have V7 : Hid (RunesZ w7 (.slice qm m.length cm) m) := HV2.out _ (T5.out.trans (B7.out.mono T5.out.size)))
    | (at_builtin; (refine wpList_append_runes rfl _ _ rfl w5.heap.size _ l rfl O7.out _ m rfl V7.out (by have := HLN.out; simp; omega) (by first | (simp; done) | (simp; omega) | exact B7.out.size) ?_); intro v8 w8 ho8 hg8; have O8 : Hid (w8.ownsRow w5.heap.size 21 1 v8 lm.length (lm.map (Value.int .i32))) := (by show World.ownsRow _ _ _ _ _ _ _; rw [Hlm.out]; simpa using ho8); have B8 : Hid (Below w5.heap.size w5 w8) := B7.out.grown hg8 (by first | (simp; done) | (simp; omega) | exact B7.out.size) (fun j hj => (O7.out.lt j hj).1); obtain ⟨a8, c8, rfl⟩ := own_slice O8.out; clear ho8 hg8; have O9 := Hid.mk' (own_new w8 w8.heap.size [] 21 (Nat.le_refl _) (by simp)); have B9 : Hid (Below w8.heap.size w8 (w8.alloc (.cells #[] 21))) := (Below.refl _ _).alloc (Nat.le_refl _) _; have V9 : Hid (RunesZ (w8.alloc (.cells #[] 21)) (.slice a4 (decM t l).length c4) (decM t l)) := X5.out.below (B8.out.trans (B9.out.mono B8.out.size)))
    | (at_builtin; (refine wpList_append_runes rfl _ _ rfl w8.heap.size _ [] rfl O9.out _ (decM t l) rfl V9.out (by have := HLN.out; simp; omega) (by first | (simp; done) | (simp; omega) | exact B9.out.size) ?_); intro v10 w10 ho10 hg10; have O10 : Hid (w10.ownsRow w8.heap.size 21 1 v10 (decM t l).length ((decM t l).map (Value.int .i32))) := (by show World.ownsRow _ _ _ _ _ _ _; simpa using ho10); have B10 : Hid (Below w8.heap.size w8 w10) := B9.out.grown hg10 (by first | (simp; done) | (simp; omega) | exact B9.out.size) (fun j hj => (O9.out.lt j hj).1); obtain ⟨a10, c10, rfl⟩ := own_slice O10.out; clear ho10 hg10; have V10 : Hid (RunesZ w10 (.slice a5 (decM t m).length c5) (decM t m)) := Z5.out.below (B8.out.trans (B10.out.mono B8.out.size)))
    | (at_builtin; (refine wpList_append_runes rfl _ _ rfl w8.heap.size _ (decM t l) rfl O10.out _ (decM t m) rfl V10.out (by have := HLN.out; simp; omega) (by first | (simp; done) | (simp; omega) | exact B10.out.size) ?_); intro v11 w11 ho11 hg11; have O11 : Hid (w11.ownsRow w8.heap.size 21 1 v11 pm.length (pm.map (Value.int .i32))) := (by show World.ownsRow _ _ _ _ _ _ _; rw [Hpm.out]; simpa using ho11); have B11 : Hid (Below w8.heap.size w8 w11) := B10.out.grown hg11 (by first | (simp; done) | (simp; omega) | exact B10.out.size) (fun j hj => (O10.out.lt j hj).1); obtain ⟨a11, c11, rfl⟩ := own_slice O11.out; clear ho11 hg11))
  have B511 : Hid (Below w5.heap.size w5 w11) := B8.out.trans (B11.out.mono B8.out.size)
  have U11 : Hid (Below W0.heap.size W0 w11) := U5.out.trans (B511.out.mono U5.out.size)
  have HTR : Hid (∀ W W', Below w11.heap.size w11 W → Below W.heap.size W W' → Below w11.heap.size w11 W') := fun W W' h h' => h.trans (h'.mono h.size)
  have H11 : Hid (∀ W, Below w11.heap.size w11 W → (W.cell? ⟨w.heap.size, 0, none⟩ = some (.slice a t.rows.length cap) ∧ W.cell? ⟨w.heap.size, 1, none⟩ = some (.slice ca t.cls.length ccap) ∧ W.cell? ⟨w.heap.size, 2, none⟩ = some (.slice ea t.exc.length ecap)) ∧ Below w.heap.size w W) := fun W hb => HEE.out W (U11.out.trans (hb.mono U11.out.size))
  have r1 : Runes w11 (.slice a4 (decM t l).length c4) (decM t l) := (X5.out.below B511.out).1
  have r2 : Runes w11 (.slice a8 lm.length c8) lm := (Runes.own O8.out).below B11.out
  have r3 : Runes w11 (.slice a11 pm.length c11) pm := Runes.own O11.out
  obtain ⟨LL, hL1, hL2, hL3⟩ := three_lists r1 r2 r3
  have HL1 := Hid.mk' hL1
  have HL2 := Hid.mk' hL2
  have HL3 := Hid.mk' hL3
  have HA3 : Hid (∀ W v, Below w11.heap.size w11 W → (v = Value.slice a4 (decM t l).length c4 ∨ v = Value.slice a8 lm.length c8 ∨ v = Value.slice a11 pm.length c11) → _) := fun W v hb hh => HAL.out W v (LL v) (H11.out W hb).2 (by rcases hh with rfl | rfl | rfl; rw [hL1]; exact r1.below hb; rw [hL2]; exact r2.below hb; rw [hL3]; exact r3.below hb) (by have := HLN.out; rcases hh with rfl | rfl | rfl; rw [hL1]; omega; rw [hL2, Hlm.out]; simp; omega; rw [hL3, Hpm.out]; simp; omega)
  have HR1 : Hid (∀ W, Below w11.heap.size w11 W → Runes W (.slice a4 (decM t l).length c4) (decM t l)) := fun W hb => r1.below hb
  have hzb : Below w11.heap.size w11 w11.drew := (Below.refl _ _).drew
  clear hL1 hL2 hL3 r1 r2 r3 HAL HV1 HV2 O6 B6 V6 O7 B7 V7 O8 B8 O9 B9 V9 O10 B10 V10 O11 B11 B511 U11 X5 Z5 T5 U5 HEE hbw5 hb05
  go_wp2
  go_region_held3 (fun w' => (w'.cell? ⟨w.heap.size, 0, none⟩ = some (.slice a t.rows.length cap) ∧ w'.cell? ⟨w.heap.size, 1, none⟩ = some (.slice ca t.cls.length ccap) ∧ w'.cell? ⟨w.heap.size, 2, none⟩ = some (.slice ea t.exc.length ecap))) (first | exact (H11.out _ (by assumption)).1) (first
    | (go_at_call 13; refine (HIS.out _ _ ?_ ?_).mono ?_; exact (H11.out _ (by assumption)).2; exact HR1.out _ (by assumption); rintro e wI ⟨rfl, hbI⟩; have hzI := HTR.out _ _ (by assumption) hbI)
    | (go_at_call 12; refine (HA3.out _ _ ?_ ?_).mono ?_; assumption; (first | exact .inl rfl | exact .inr (.inl rfl) | exact .inr (.inr rfl)); (try (have rP := rA)); rintro e wA ⟨vA, rfl, hoA, hbA⟩; (first | rw [HL1.out, HDD.out] at hoA | rw [HL2.out, Hlm.out] at hoA | rw [HL3.out, Hpm.out, HDA.out] at hoA); obtain ⟨aA, cA, rfl⟩ := own_slice hoA; have rA := Runes.own hoA; have hzA := HTR.out _ _ (by assumption) hbA; (try (have rQ := rP.below hbA)))
    | (go_at_call 14; refine (HS2.out _ _ _ rQ rA).mono ?_; rintro e wT ⟨rfl, hbT⟩; have hzT := HTR.out _ _ (by assumption) hbT)
    | (go_at_call 14; refine (HS1.out _ _ _ rA (HR1.out _ (by assumption))).mono ?_; rintro e wS ⟨rfl, hbS⟩; have hzS := HTR.out _ _ (by assumption) hbS; have rA := rA.below hbS))
  all_goals
    go_wp2
    go_ret
    exact ⟨ret_bool (by simp), (H11.out _ (by assumption)).2⟩
end Go.Proofs.YtojpkkbagcahdaaDoor

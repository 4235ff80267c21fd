/-
  What is proved here: toward the reference's Order: the sum of place times class, its Class with the world told. · what the reference's All answers, where its Order answers orderM. · what the reference's Order answers.
-/
import Derived.Test.YtoceaielclomcaaRRGreatDoorKS
import Derived.Deep.AppendLies
import Derived.Deep.RegionHeld3
import Derived.Deep.LoopGhost
namespace Go.Proofs.YtoceaielclomcaaRRGreatDoor
open Go.RowKit Go.Sort

/-- the sum of place times class (classes below 0 count 0, above 254 as 254) -/
def wgt (c : Int → Int) : Nat → List Int → Nat
  | _, [] => 0
  | k, x :: l => k * (min (c x) 254).toNat + wgt c (k + 1) l
theorem wgt_append (c : Int → Int) (k : Nat) (l l' : List Int) : wgt c k (l ++ l') = wgt c k l + wgt c (k + l.length) l' := by
  induction l generalizing k with
  | nil => simp [wgt]
  | cons x l ih =>
    simp only [List.cons_append, wgt, List.length_cons]
    rw [ih, show k + 1 + l.length = k + (l.length + 1) by omega]
    omega
theorem wgt_le (c : Int → Int) (k : Nat) (l : List Int) : wgt c k l ≤ l.length * ((k + l.length) * 254) := by
  induction l generalizing k with
  | nil => simp [wgt]
  | cons x l ih =>
    have h1 := ih (k + 1)
    have h2 : k * (min (c x) 254).toNat ≤ (k + (l.length + 1)) * 254 := Nat.mul_le_mul (by omega) (by omega)
    have h3 : k + 1 + l.length = k + (l.length + 1) := by omega
    rw [h3] at h1
    simp only [wgt, List.length_cons]
    rw [Nat.succ_mul]
    omega
theorem wgt_swap (c : Int → Int) (P Q : List Int) (x y : Int) (hy : 0 < c y) (hxy : c y < c x) (hx : c x ≤ 254) : wgt c 0 (P ++ x :: y :: Q) < wgt c 0 (P ++ y :: x :: Q) := by
  rw [wgt_append, wgt_append]
  simp only [wgt]
  obtain ⟨p, hp⟩ : ∃ p, 0 + P.length = p := ⟨_, rfl⟩
  rw [hp]
  obtain ⟨a, ha⟩ : ∃ a : Nat, (min (c x) 254).toNat = a := ⟨_, rfl⟩
  obtain ⟨b, hb⟩ : ∃ b : Nat, (min (c y) 254).toNat = b := ⟨_, rfl⟩
  have hab : b < a := by omega
  rw [ha, hb, Nat.add_mul, Nat.add_mul]
  omega
set_option maxHeartbeats 1000000 in
theorem refClass_g (vr vc ve : Value) (l : List Rg) (r : Int) (w : World) (hT : Tab w vc l) (hl : l.length ≤ 2147483648) :
    Calls Tryz.prog 95 #[.agg #[vr, vc, ve], .int .i32 r] w fun e w' => e = .returned (.int .i64 (classOf l r)) ∧ Bl w.heap.size w w' := by
  obtain ⟨W0, hW0, hsz, hb0, e0, e1, e2⟩ := norm_box w vr vc ve
  have HF := Hid.mk' (refFind_any vc l r W0 (hT.below hb0) hl)
  unfold foundV at HF
  unfold classOf
  generalize find l r = o at *
  generalize o.getD 0 = o1 at *
  generalize o.isSome = o2 at *
  obtain ⟨a, cap, rfl, -⟩ := hT
  clear e0 e2
  go_enter Tryz.func95, Tryz.ntmps95
  go_wp2_with fail
  refine HF.out.mono ?_
  rintro e w1 ⟨rfl, rfl⟩
  go_wp2
  go_ret
  rw [← hW0]
  exact ⟨rfl, (Bl.refl _ _).alloc (Nat.le_refl _) _⟩
end Go.Proofs.YtoceaielclomcaaRRGreatDoor
namespace Go.Proofs.YtoceaielclomcaaRRGreatDoor
open Go.RowKit Go.Sort

theorem row_cells {w : World} {B g gcap : Nat} {on : List Int} (ho : w.ownsRow B 21 1 (.slice (some ⟨g, 0, none⟩) on.length gcap) on.length (on.map (Value.int .i32))) : ∀ j u, (on.map (Value.int .i32))[j]? = some u → w.cell? ((⟨g, 0, none⟩ : Addr).add j) = some u := fun j u h => by
  have hj : j < on.length := by
    rcases Nat.lt_or_ge j on.length with q | q
    · exact q
    · rw [List.getElem?_eq_none (by simpa using q)] at h; cases h
  rw [Addr.add_lit, Nat.zero_add, ho.cellAt j (by omega)]
  exact h
set_option maxRecDepth 20000 in
set_option maxHeartbeats 4000000 in
theorem refAll_of (vr vc ve : Value) (rows : List Rw) (c : Int → Int) (v : Value) (l : List Int) (w : World) (hR : Rows4 w vr rows) (hl : rows.length ≤ 2000) (hc : ∀ i, i < rows.length → rowCode rows i = 0) (hor : ∀ W v rs, Below w.heap.size w W → Runes W v rs → rs.length ≤ 268435456 → Calls Tryz.prog 104 #[.agg #[vr, vc, ve], v] W fun e w' => ∃ v', e = .returned v' ∧ w'.ownsRow W.heap.size 21 1 v' rs.length ((orderM c rs).map (Value.int .i32)) ∧ Below W.heap.size W w') (hv : Runes w v l) (hbig : (apartM rows l).length ≤ 200000000) (hll : l.length ≤ 200000000) :
    Calls Tryz.prog 70 #[.agg #[vr, vc, ve], v] w fun e w' => ∃ v', e = .returned v' ∧ w'.ownsRow w.heap.size 21 1 v' (apartM rows l).length ((orderM c (apartM rows l)).map (Value.int .i32)) ∧ Below w.heap.size w w' := by
  obtain ⟨i0, hi, hz0, hz1, hz2⟩ := info_parts Tryz.infoRune
  obtain ⟨W0, hW0, hsz, hb0, e0, e1, e2⟩ := norm_box w vr vc ve
  have HON : Hid (∀ W r, Below w.heap.size w W → _) := fun W r hb => refOne_any vr vc ve rows hl hc r W (hR.below hb)
  have HOR := Hid.mk' hor
  have HEE : Hid (∀ W, Below (w.heap.size + 1) W0 W → (W.cell? ⟨w.heap.size, 0, none⟩ = some vr ∧ W.cell? ⟨w.heap.size, 1, none⟩ = some vc ∧ W.cell? ⟨w.heap.size, 2, none⟩ = some ve) ∧ Below w.heap.size w W) := fun W hb => ⟨⟨(hb.cell (p := ⟨w.heap.size, 0, none⟩) (Nat.lt_succ_self _)).trans e0, (hb.cell (p := ⟨w.heap.size, 1, none⟩) (Nat.lt_succ_self _)).trans e1, (hb.cell (p := ⟨w.heap.size, 2, none⟩) (Nat.lt_succ_self _)).trans e2⟩, hb0.trans (hb.mono (Nat.le_succ _))⟩
  have HV : Hid (∀ W, Below w.heap.size w W → Runes W v l) := fun W hb => hv.below hb
  have HNX : Hid (∀ k, k < l.length → apartM rows (l.take (k + 1)) = apartM rows (l.take k) ++ oneM rows (l.getD k 0)) := fun k hk => apart_next rows l k hk
  have HLE : Hid (∀ k, (apartM rows (l.take k)).length ≤ 200000000) := fun k => Nat.le_trans (apart_le rows l k) hbig
  have HPO : Hid (∀ r, 0 < (oneM rows r).length) := fun r => oneM_pos rows r
  have HALL : Hid (apartM rows (l.take l.length) = apartM rows l) := by show _ = _; rw [List.take_length]
  obtain ⟨va, vcp, rfl, -⟩ := id hv
  generalize hres : apartM rows l = res at *
  clear hR hc hor hv hres e1 e2
  go_enter Tryz.func70, Tryz.ntmps70
  go_wp2
  go_loopw [5, 6] (fun bv x wr => ∃ k : Nat, x = .int .i64 k ∧ k ≤ l.length ∧ Hid (wr.ownsRow (w.heap.size + 1) 21 1 bv (apartM rows (l.take k)).length ((apartM rows (l.take k)).map (Value.int .i32))) ∧ Hid (Below (w.heap.size + 1) W0 wr)) (fun _ x _ => l.length - (intOf x).toNat)
  case atStart => exact ⟨0, rfl, Nat.zero_le _, World.ownsRow_nil _ _ _ _, by rw [← hsz]; exact Below.refl _ _⟩
  case round =>
    clear e0
    obtain ⟨k, rfl, hk, HO, HB⟩ := hrel
    obtain ⟨⟨x0, x1, x2⟩, hbw⟩ := HEE.out wr HB.out
    have hszr : w.heap.size + 1 ≤ wr.heap.size := by have := HB.out.size; omega
    obtain ⟨ba, bcap, rfl⟩ := own_slice HO.out
    by_cases hlt : k < l.length
    · obtain ⟨va', vcp', ee, hvj⟩ := HV.out wr hbw
      obtain ⟨rfl, rfl⟩ : va = va' ∧ vcp = vcp' := by simpa using ee
      obtain ⟨b, off, rfl, ck⟩ := hvj k hlt
      have HO1 := Hid.mk' (HON.out wr.drew (l.getD k 0) hbw.drew)
      have hnx := Hid.mk' (HNX.out k hlt)
      have hle1 := HLE.out k
      have hle2 := HLE.out (k + 1)
      rw [hnx.out, List.length_append] at hle2
      have hpo := HPO.out (l.getD k 0)
      have HCK : Hid (∀ W, Below w.heap.size w W → W.cell? ⟨b, off + k, none⟩ = some (.int .i32 (l.getD k 0))) := fun W hb => by
        obtain ⟨va2, vcp2, ee2, hvj2⟩ := HV.out W hb
        obtain ⟨b2, off2, e3, ck2⟩ := hvj2 k hlt
        have e4 : va2 = some ⟨b, off, none⟩ := by simpa using (congrArg (fun v => match v with | Value.slice a _ _ => a | _ => none) ee2).symm
        obtain ⟨rfl, rfl⟩ : b = b2 ∧ off = off2 := by rw [e4] at e3; simpa using e3
        exact ck2
      clear ee hvj
      generalize l.getD k 0 = r at *
      generalize hone : oneM rows r = on at *
      have hklz : (k : Int) < (l.length : Int) := by omega
      go_wp2
      go_region_held3 (fun w' => (w'.cell? ⟨w.heap.size, 0, none⟩ = some vr ∧ w'.cell? ⟨w.heap.size, 1, none⟩ = some vc ∧ w'.cell? ⟨w.heap.size, 2, none⟩ = some ve) ∧ w'.cell? ⟨b, off + k, none⟩ = some (.int .i32 r)) (first | exact ⟨⟨x0, x1, x2⟩, ck⟩ | exact ⟨⟨z0, z1, z2⟩, z3⟩ | exact ⟨⟨y0, y1, y2⟩, y3⟩ | go_keep) (first
        | (go_at_call 103; refine HO1.out.mono ?_; rintro e w1 ⟨v1, rfl, ho1, hb1⟩; obtain ⟨g, gcap, rfl, hg0, hglt⟩ := ho1.form hpo; have hbw1 : Below (w.heap.size + 1) W0 w1 := HB.out.drew.trans (hb1.mono hszr); obtain ⟨⟨z0, z1, z2⟩, hbww1⟩ := HEE.out w1 hbw1; have z3 := HCK.out w1 hbww1)
        | (refine step_append_lies _ (by rfl) _ _ 37 (by rfl) (w.heap.size + 1) 21 i0 (.int .i32 0) 1 4 Tryz.underlying37 hi hz0 hz1 hz2 rfl (by decide) (.slice ba (apartM rows (l.take k)).length bcap) (apartM rows (l.take k)).length ((apartM rows (l.take k)).map (Value.int .i32)) (by rfl) (owns_below HO.out.drew hb1) ⟨g, 0, none⟩ on.length gcap (on.map (Value.int .i32)) (by rfl) (by simp) (row_cells ho1) (ints_one .i32 on) hpo (by unfold maxLen; omega) (by omega) (by have := hb1.size; simp at this; omega) _ rfl ?_; intro g2 cap2 w2 hown' hgrow hat hlt2; have hbw2 : Below (w.heap.size + 1) W0 w2 := hbw1.grown hgrow (by have := hb1.size; simp at this; omega) (fun j hj => ((owns_below HO.out.drew hb1).lt j hj).1); obtain ⟨⟨y0, y1, y2⟩, hbww2⟩ := HEE.out w2 hbw2; have y3 := HCK.out w2 hbww2))
      all_goals
        have HB2 := Hid.mk' hbw2
        have HO2 : Hid (w2.ownsRow (w.heap.size + 1) 21 1 (.slice (some ⟨g2, 0, none⟩) ((apartM rows (l.take k)).length + on.length) cap2) (apartM rows (l.take (k + 1))).length ((apartM rows (l.take (k + 1))).map (Value.int .i32))) := by
          rw [hnx.out]
          refine Hid.mk' ?_
          simpa using hown'
        clear hown' hgrow hat
        go_wp2
        go_roundw
        case rel => exact ⟨k + 1, by go_num, by omega, HO2, HB2⟩
        case measure => simp [intOf]; omega
    · obtain rfl : k = l.length := by omega
      rw [HALL.out] at HO
      have HC := Hid.mk' (HOR.out wr _ res hbw (Runes.own HO.out) (by omega))
      clear HON HOR HEE HV HNX HLE HPO
      rw [HALL.out]
      go_wp2_with fail
      refine HC.out.mono ?_
      rintro e w1 ⟨v1, rfl, ho1, hb1⟩
      obtain ⟨ca, ccap, rfl⟩ := own_slice ho1
      have HO1 := Hid.mk' (own_weaken (B := w.heap.size) ho1 hbw.size)
      have hb2 := hbw.trans (hb1.mono hbw.size)
      clear ho1
      go_wp2
      go_ret
      exact ⟨_, rfl, HO1.out, hb2⟩
end Go.Proofs.YtoceaielclomcaaRRGreatDoor
namespace Go.Proofs.YtoceaielclomcaaRRGreatDoor
open Go.RowKit Go.Sort

theorem swap_ok (c : Int → Int) (L : List Int) (j : Nat) (hj : j + 1 < L.length) (hb : 0 < c (L.getD (j + 1) 0)) (hab : c (L.getD (j + 1) 0) < c (L.getD j 0)) (h254 : ∀ r, c r ≤ 254) :
    orderM c (swapL L (j + 1) j) = orderM c L ∧ wgt c 0 L < wgt c 0 (swapL L (j + 1) j) ∧ (swapL L (j + 1) j).length = L.length := by
  obtain ⟨P, Q, x, y, e, hP, g1, g2, g3⟩ := swap_next L j hj
  rw [g1, g2] at hab
  rw [g2] at hb
  refine ⟨?_, ?_, swapL_length _ _ _⟩
  · rw [g3, e, orderM_swap c P Q x y hb hab]
  · rw [g3, e]
    exact wgt_swap c P Q x y hb hab (h254 x)
/-- the state of the reference's row while it is put in order -/
def OrdI (c : Int → Int) (l L : List Int) (n i : Nat) (ag : Bool) (L2 : List Int) : Prop :=
  L2.length = n ∧ orderM c L2 = orderM c l ∧ (ag = false → L2 = L ∧ ∀ k, k + 1 < i → k + 1 < n → ¬ (0 < c (L.getD (k + 1) 0) ∧ c (L.getD (k + 1) 0) < c (L.getD k 0))) ∧ (ag = true → wgt c 0 L < wgt c 0 L2)
theorem ordI_keep {c : Int → Int} {l L L2 : List Int} {n j : Nat} {ag : Bool} (h : OrdI c l L n (j + 1) ag L2) (hno : ¬ (0 < c (L2.getD (j + 1) 0) ∧ c (L2.getD (j + 1) 0) < c (L2.getD j 0))) : OrdI c l L n (j + 1 + 1) ag L2 := by
  obtain ⟨h1, h2, h3, h4⟩ := h
  refine ⟨h1, h2, fun ha => ?_, h4⟩
  obtain ⟨rfl, h5⟩ := h3 ha
  refine ⟨rfl, fun k hk hk' => ?_⟩
  rcases Nat.lt_or_ge (k + 1) (j + 1) with q | q
  · exact h5 k q hk'
  · obtain rfl : k = j := by omega
    exact hno
theorem ordI_swap {c : Int → Int} {l L L2 : List Int} {n j : Nat} {ag : Bool} (h : OrdI c l L n (j + 1) ag L2) (hj : j + 1 < n) (hb : 0 < c (L2.getD (j + 1) 0)) (hab : c (L2.getD (j + 1) 0) < c (L2.getD j 0)) (h254 : ∀ r, c r ≤ 254) : OrdI c l L n (j + 1 + 1) true (swapL L2 (j + 1) j) := by
  obtain ⟨h1, h2, h3, h4⟩ := h
  obtain ⟨o1, o2, o3⟩ := swap_ok c L2 j (by omega) hb hab h254
  refine ⟨o3.trans h1, o1.trans h2, (fun ha => by cases ha), fun _ => ?_⟩
  cases ag with
  | false => obtain ⟨rfl, -⟩ := h3 rfl; exact o2
  | true => have := h4 rfl; omega
set_option maxRecDepth 20000 in
set_option maxHeartbeats 8000000 in
theorem refOrder_any (vr vc ve : Value) (cl : List Rg) (v : Value) (l : List Int) (w : World) (hT : Tab w vc cl) (hl : cl.length ≤ 2147483648) (hc254 : ∀ r, classOf cl r ≤ 254) (hv : Runes w v l) (hll : l.length ≤ 268435456) :
    Calls Tryz.prog 104 #[.agg #[vr, vc, ve], v] w fun e w' => ∃ v', e = .returned v' ∧ w'.ownsRow w.heap.size 21 1 v' l.length ((orderM (classOf cl) l).map (Value.int .i32)) ∧ Below w.heap.size w w' := by
  have mixed : Tryz.prog.follows .mixedOrders = true := by kernel_rfl
  obtain ⟨i0, hi, hz0, hz1, hz2⟩ := info_parts Tryz.infoRune
  obtain ⟨W0, hW0, hsz, hb0, e0, e1, e2⟩ := norm_box w vr vc ve
  have HK : Hid (∀ W, Below (w.heap.size + 1) W0 W → ∀ z (n : Nat) (os : Array Obj), Calls Tryz.prog 95 #[.agg #[vr, vc, ve], .int .i32 z] (grow (W.drewN n) os) fun e w' => e = .returned (.int .i64 (classOf cl z)) ∧ ∃ q os', w' = grow ((grow (W.drewN n) os).drewN q) os') := fun W hb z n os => by
    have hbw : Below w.heap.size w (grow (W.drewN n) os) := hb0.trans ((hb.mono (Nat.le_succ _)).trans ((below_grow W n os).mono (by have := hb.size; omega)))
    refine (refClass_g vr vc ve cl z (grow (W.drewN n) os) (hT.below hbw) hl).mono ?_
    rintro e w' ⟨he, hB⟩
    exact ⟨he, hB.grow⟩
  have HEE : Hid (∀ W, Below (w.heap.size + 1) W0 W → ∀ (n : Nat) (os : Array Obj), (grow (W.drewN n) os).cell? ⟨w.heap.size, 0, none⟩ = some vr ∧ (grow (W.drewN n) os).cell? ⟨w.heap.size, 1, none⟩ = some vc ∧ (grow (W.drewN n) os).cell? ⟨w.heap.size, 2, none⟩ = some ve) := fun W hb n os => by
    have hb2 : Below (w.heap.size + 1) W0 (grow (W.drewN n) os) := hb.trans ((below_grow W n os).mono (by have := hb.size; omega))
    exact ⟨(hb2.cell (p := ⟨w.heap.size, 0, none⟩) (Nat.lt_succ_self _)).trans e0, (hb2.cell (p := ⟨w.heap.size, 1, none⟩) (Nat.lt_succ_self _)).trans e1, (hb2.cell (p := ⟨w.heap.size, 2, none⟩) (Nat.lt_succ_self _)).trans e2⟩
  have HBW : Hid (∀ W, Below (w.heap.size + 1) W0 W → Below w.heap.size w W) := fun W hb => hb0.trans (hb.mono (Nat.le_succ _))
  have hv0 := hv.below hb0
  obtain ⟨a, cap, rfl, hvj⟩ := hv0
  cases a with
  | none =>
    obtain rfl : l = [] := by
      cases l with
      | nil => rfl
      | cons x l =>
        obtain ⟨b, off, h, -⟩ := hvj 0 (by simp)
        cases h
    clear HK HEE hvj hv
    go_enter Tryz.func104, Tryz.ntmps104
    go_wp2
    refine wp_loop_rounds 2 ?_
    rw [rounds_succ]
    go_wp2
    refine wp_loop_rounds 1 ?_
    rw [rounds_succ]
    go_wp2
    rw [rounds_succ]
    go_wp2
    go_ret
    have ho := own_new W0 (w.heap.size + 1) [] 21 (by omega) (by simp)
    rw [hsz] at ho
    exact ⟨_, rfl, own_weaken ho (Nat.le_succ _), hb0.alloc hb0.size _⟩
  | some ad =>
    have HO0 := Hid.mk' (own_new W0 (w.heap.size + 1) [] 21 (by omega) (by simp))
    have hba : Below (w.heap.size + 1) W0 (W0.alloc (.cells #[] 21)) := by rw [← hsz]; exact (Below.refl _ W0).alloc (Nat.le_refl _) _
    have HC : Hid (∀ j u, (l.map (Value.int .i32))[j]? = some u → (W0.alloc (.cells #[] 21)).cell? (ad.add j) = some u) := fun j u h => by
      have hj : j < l.length := by
        rcases Nat.lt_or_ge j l.length with q | q
        · exact q
        · rw [List.getElem?_eq_none (by simpa using q)] at h; cases h
      obtain ⟨b, off, e, hc⟩ := hvj j hj
      obtain rfl : ad = ⟨b, off, none⟩ := by simpa using e
      rw [List.getElem?_map, List.getElem?_eq_getElem hj] at h
      simp only [Option.map_some, Option.some.injEq] at h
      rw [Addr.add_lit, World.cell?_alloc_lt _ _ ⟨b, off + j, none⟩ (lt_of_cell hc), hc, ← h]
      simp [List.getD, List.getElem?_eq_getElem hj]
    have HBA := Hid.mk' hba
    obtain ⟨n, hn⟩ : ∃ n, l.length = n := ⟨_, rfl⟩
    have HN := Hid.mk' hn
    rw [hn] at hll ⊢
    have HVS : Hid ((l.map (Value.int .i32)).length = n ∧ ∀ u ∈ l.map (Value.int .i32), u.oneCell' = true) := ⟨by simpa using hn, ints_one .i32 l⟩
    rw [hsz] at HO0
    generalize hcc : classOf cl = c at *
    have H254 := Hid.mk' hc254
    clear hvj hv hba hn hT hcc hc254 e0 e1 e2
    go_enter Tryz.func104, Tryz.ntmps104
    go_wp2_with (at_builtin; (refine wpList_append_own _ rfl _ _ 37 rfl (w.heap.size + 1) 21 i0 (.int .i32 0) 1 4 Tryz.underlying37 hi hz0 hz1 hz2 rfl (by decide) _ _ _ rfl HO0.out ad n cap (l.map (Value.int .i32)) rfl (by rw [HVS.out.1]; simp) HC.out HVS.out.2 (by unfold maxLen; simp; omega) (by simp; omega) (by simp; omega) ?_; intro v1 w1 hown' hgrow hnn))
    have ho1 : w1.ownsRow (w.heap.size + 1) 21 1 v1 n (l.map (Value.int .i32)) := by simpa using hown'
    have HB1 : Hid (Below (w.heap.size + 1) W0 w1) := HBA.out.grown hgrow (by simp; omega) (fun j hj => (HO0.out.lt j hj).1)
    rcases ho1.2 with ⟨h0, h0'⟩ | ⟨g, gcap, cur, rfl, hg0, hgc, hncap, -, -, -⟩
    · obtain rfl := h0
      obtain rfl := h0'
      have hres : Hid (orderM c l = l) := by show _ = _; rw [List.length_eq_zero_iff.1 HN.out]; rfl
      have HBB := Hid.mk' (HBW.out w1 HB1.out)
      clear HC HVS hown' hgrow hnn ho1 HO0 HBA HK HEE HBW HB1
      go_wp2
      refine wp_loop_rounds 2 ?_
      rw [rounds_succ]
      go_wp2
      refine wp_loop_rounds 1 ?_
      rw [rounds_succ]
      go_wp2
      rw [rounds_succ]
      go_wp2
      go_ret
      refine ⟨_, rfl, ?_, HBB.out⟩
      rw [hres.out, List.length_eq_zero_iff.1 HN.out]
      exact World.ownsRow_nil _ _ _ _
    have hgs : g < w1.heap.size := (ho1.lt g rfl).2
    have HO1 := Hid.mk' ho1
    obtain ⟨BD, hBD⟩ : ∃ BD, n * ((0 + n) * 254) = BD := ⟨_, rfl⟩
    have HBD : Hid (∀ L : List Int, L.length = n → wgt c 0 L ≤ BD) := fun L hL => by
      have := wgt_le c 0 L
      rw [hL] at this
      omega
    clear HC HVS hown' hgrow hnn ho1 hgc HO0 HBA hBD
    go_wp2
    go_loopg [6] (BD + 1) (fun gk x wr => ∃ ag : Bool, x = .bool ag ∧ Hid (∃ L, L.length = n ∧ wr.ownsRow (w.heap.size + 1) 21 1 (.slice (some ⟨g, 0, none⟩) n gcap) n (L.map (Value.int .i32)) ∧ orderM c L = orderM c l ∧ (ag = false → InOrder c L) ∧ (ag = true → BD + 1 ≤ gk + wgt c 0 L)) ∧ Hid (Below (w.heap.size + 1) W0 wr) ∧ g < wr.heap.size)
    case atStart => exact ⟨true, rfl, ⟨l, HN.out, HO1.out, rfl, (fun h => by cases h), fun _ => by omega⟩, HB1, hgs⟩
    case round =>
      clear HO1 HB1 hgs
      obtain ⟨ag0, rfl, hI, HB, hgs⟩ := hrel
      cases ag0 with
      | false =>
        have HFIN : Hid (wr.ownsRow w.heap.size 21 1 (.slice (some ⟨g, 0, none⟩) n gcap) n ((orderM c l).map (Value.int .i32))) := by
          obtain ⟨L, hL, hO, hOr, hU, -⟩ := hI.out
          rw [← hOr, orderM_in c L (hU rfl)]
          exact own_weaken hO (Nat.le_succ _)
        have HB2 := Hid.mk' (HBW.out wr HB.out)
        clear hI HB HK HEE HBW
        go_wp2
        go_ret
        exact ⟨_, rfl, HFIN.out, HB2.out⟩
      | true =>
        obtain ⟨L, hL, hO, hOr, -, hgk⟩ := hI.out
        have hgk1 : 1 ≤ gk := by have := HBD.out L hL; have := hgk rfl; omega
        have HGK := Hid.mk' (hgk rfl)
        have HO := Hid.mk' hO
        have HI0 : Hid (OrdI c l L n 1 false L) := ⟨hL, hOr, fun _ => ⟨rfl, fun k hk => by omega⟩, fun h => by cases h⟩
        have HLN := Hid.mk' hL
        clear hI hL hO hOr hgk
        go_wp2
        go_loopw [6, 7] (fun x y wr => ∃ (ag : Bool) (i : Nat) (L2 : List Int), x = .bool ag ∧ y = .int .i64 i ∧ 1 ≤ i ∧ i ≤ n + 1 ∧ Hid (OrdI c l L n i ag L2) ∧ Hid (wr.ownsRow (w.heap.size + 1) 21 1 (.slice (some ⟨g, 0, none⟩) n gcap) n (L2.map (Value.int .i32))) ∧ Hid (Below (w.heap.size + 1) W0 wr) ∧ g < wr.heap.size) (fun _ y _ => n + 2 - (intOf y).toNat)
        case atStart => exact ⟨false, 1, L, rfl, rfl, Nat.le_refl _, by omega, HI0, HO, HB, hgs⟩
        case round =>
          clear HI0 HO HB hgs
          obtain ⟨ag, i, L2, rfl, rfl, hi1, hin, HI, HO, HB, hgs⟩ := hrel
          by_cases hlt : i < n
          · obtain ⟨j, hij⟩ : ∃ j, i = j + 1 := ⟨i - 1, by omega⟩
            have HIJ := Hid.mk' hij
            have HALL : Hid (∀ W, W.ownsRow (w.heap.size + 1) 21 1 (.slice (some ⟨g, 0, none⟩) n gcap) n (L2.map (Value.int .i32)) → Below (w.heap.size + 1) W0 W → g < W.heap.size → ∀ (q : Nat) (os : Array Obj), ((grow (W.drewN q) os).ownsRow (w.heap.size + 1) 21 1 (.slice (some ⟨g, 0, none⟩) n gcap) n (L2.map (Value.int .i32)) ∧ Below (w.heap.size + 1) W0 (grow (W.drewN q) os) ∧ g < (grow (W.drewN q) os).heap.size) ∧ (grow (W.drewN q) os).cell? ⟨g, j, none⟩ = some (.int .i32 (L2.getD j 0)) ∧ (grow (W.drewN q) os).cell? ⟨g, i, none⟩ = some (.int .i32 (L2.getD i 0))) := fun W ho hb hgs q os => by
              have h1 := below_grow W q os
              have ho' := owns_below ho h1
              have hl2 := HI.out.1
              refine ⟨⟨ho', hb.trans (h1.mono (by have := hb.size; omega)), by have := h1.size; omega⟩, ?_, ?_⟩
              · rw [ho'.cellAt j (by omega), List.getElem?_map, List.getElem?_eq_getElem (by omega)]
                simp [List.getD, List.getElem?_eq_getElem (show j < L2.length by omega)]
              · rw [ho'.cellAt i (by omega), List.getElem?_map, List.getElem?_eq_getElem (by omega)]
                simp [List.getD, List.getElem?_eq_getElem (show i < L2.length by omega)]
            have HG := Hid.mk' (HALL.out wr HO.out HB.out hgs)
            have la : ∀ (q : Nat) (os : Array Obj), (grow (wr.drewN q) os).cell? ⟨g, j, none⟩ = some (.int .i32 (L2.getD j 0)) := fun q os => (HG.out q os).2.1
            have c0 : ∀ (q : Nat) (os : Array Obj), (grow (wr.drewN q) os).cell? ⟨w.heap.size, 0, none⟩ = some vr := fun q os => (HEE.out wr HB.out q os).1
            have c1 : ∀ (q : Nat) (os : Array Obj), (grow (wr.drewN q) os).cell? ⟨w.heap.size, 1, none⟩ = some vc := fun q os => (HEE.out wr HB.out q os).2.1
            have c2 : ∀ (q : Nat) (os : Array Obj), (grow (wr.drewN q) os).cell? ⟨w.heap.size, 2, none⟩ = some ve := fun q os => (HEE.out wr HB.out q os).2.2
            have hk := HK.out wr HB.out (L2.getD j 0)
            have HKP : Hid (¬ (0 < c (L2.getD i 0) ∧ c (L2.getD i 0) < c (L2.getD j 0)) → OrdI c l L n (i + 1) ag L2) := fun h => by have := HI.out; subst hij; exact ordI_keep this h
            have HSW : Hid (0 < c (L2.getD i 0) → c (L2.getD i 0) < c (L2.getD j 0) → OrdI c l L n (i + 1) true (swapL L2 i j)) := fun h1 h2 => by have := HI.out; subst hij; exact ordI_swap this hlt h1 h2 H254.out
            have HSS : Hid ((swapL L2 i j).map (Value.int .i32) = ((L2.map (Value.int .i32)).set i (.int .i32 (L2.getD j 0))).set j (.int .i32 (L2.getD i 0))) := by
              show _ = _
              unfold swapL
              simp [List.map_set]
            generalize hx : L2.getD j 0 = x at *
            generalize hy : L2.getD i 0 = y at *
            have hiz : (i : Int) < (n : Int) := by omega
            have ej : (i : Int) - 1 = (j : Int) := by omega
            have rj : IntKind.i64.wrap ((i : Int) - 1) = (j : Int) := by rw [IntKind.wrap_i64]; omega
            have rj' : IntKind.i64.wrap (j : Int) = (j : Int) := by rw [IntKind.wrap_i64]; omega
            have hjz0 : (j : Int) < (n : Int) := by omega
            clear hx hy HI HO HB hij
            go_wp2_with fail
            go_quiet_grown (first | (go_at_call 95; refine Calls.grown_of (hk _ _)))
            obtain ⟨⟨p1, p2, p3⟩, -, -⟩ := HG.out nq osq
            have HO := Hid.mk' p1
            have HB := Hid.mk' p2
            clear p1 p2 la c0 c1 c2 hk HG
            generalize grow (wr.drewN nq) osq = w2 at *
            have HG := Hid.mk' (HALL.out w2 HO.out HB.out p3)
            have la : ∀ (q : Nat) (os : Array Obj), (grow (w2.drewN q) os).cell? ⟨g, i, none⟩ = some (.int .i32 y) := fun q os => (HG.out q os).2.2
            have c0 : ∀ (q : Nat) (os : Array Obj), (grow (w2.drewN q) os).cell? ⟨w.heap.size, 0, none⟩ = some vr := fun q os => (HEE.out w2 HB.out q os).1
            have c1 : ∀ (q : Nat) (os : Array Obj), (grow (w2.drewN q) os).cell? ⟨w.heap.size, 1, none⟩ = some vc := fun q os => (HEE.out w2 HB.out q os).2.1
            have c2 : ∀ (q : Nat) (os : Array Obj), (grow (w2.drewN q) os).cell? ⟨w.heap.size, 2, none⟩ = some ve := fun q os => (HEE.out w2 HB.out q os).2.2
            have hk := HK.out w2 HB.out y
            go_wp2_with fail
            go_quiet_grown (first | (go_at_call 95; refine Calls.grown_of (hk _ _)))
            obtain ⟨⟨p1, p2, p3⟩, p4⟩ := HG.out nq osq
            have HO3 := Hid.mk' p1
            have HB3 := Hid.mk' p2
            have HCE := Hid.mk' p4
            clear p4
            clear p1 p2 la c0 c1 c2 hk HG HO HB
            generalize grow (w2.drewN nq) osq = w3 at *
            have HI2 := Hid.mk' HIJ.out
            clear HK HEE HALL HBW HBD
            by_cases hp : 0 < c y
            · have hd : decide (0 < c y) = true := decide_eq_true hp
              by_cases hq : c y < c x
              · have hd2 : decide (c y < c x) = true := decide_eq_true hq
                have hnx := Hid.mk' (HSW.out hp hq)
                have ha : w3.cell? ⟨g, j, none⟩ = some (.int .i32 x) := HCE.out.1
                have hb : w3.cell? ⟨g, i, none⟩ = some (.int .i32 y) := HCE.out.2
                have hcc : (w3.setCell ⟨g, j, none⟩ (.int .i32 y)).cell? ⟨g, i, none⟩ = some (.int .i32 y) := by
                  rw [World.cell?_setCell_other (h := fun h => by have := HI2.out; simp only [Addr.mk.injEq] at h; omega)]
                  exact hb
                have fa := HO3.out.frozenAt j
                have fb := HO3.out.frozenAt i
                obtain ⟨s1, s2⟩ := HO3.out.stored j (.int .i32 y)
                obtain ⟨s3, s4⟩ := s1.stored i (.int .i32 x)
                have HB4 : Hid (Below (w.heap.size + 1) W0 ((w3.setCell ⟨g, j, none⟩ (.int .i32 y)).setCell ⟨g, i, none⟩ (.int .i32 x)).drew) := by
                  have k1 := HB3.out.grown s2 (by have := HB3.out.size; omega) (fun b hb => by simp at hb; omega)
                  exact (k1.grown s4 (by have := k1.size; omega) (fun b hb => by simp at hb; omega)).drew
                have HO4 : Hid (((w3.setCell ⟨g, j, none⟩ (.int .i32 y)).setCell ⟨g, i, none⟩ (.int .i32 x)).drew.ownsRow (w.heap.size + 1) 21 1 (.slice (some ⟨g, 0, none⟩) n gcap) n ((swapL L2 i j).map (Value.int .i32))) := by
                  refine Hid.mk' ?_
                  rw [HSS.out, List.set_comm _ _ (by have := HI2.out; omega)]
                  exact s3.drew
                have HG4 : Hid (g < ((w3.setCell ⟨g, j, none⟩ (.int .i32 y)).setCell ⟨g, i, none⟩ (.int .i32 x)).drew.heap.size) := (HO4.out.lt g rfl).2
                clear hp hq HKP HSW s1 s2 s3 s4 HO3 HB3 HCE HSS
                go_wp2
                go_region
                generalize ((w3.setCell ⟨g, j, none⟩ (.int .i32 y)).setCell ⟨g, i, none⟩ (.int .i32 x)).drew = w4 at HB4 HO4 HG4 ⊢
                clear ha hb hcc fa fb
                go_wp2
                go_roundw
                case rel => exact ⟨true, i + 1, swapL L2 i j, rfl, by go_num, by omega, by omega, hnx, HO4, HB4, HG4.out⟩
                case measure => simp [intOf]; omega
              · have hd2 : decide (c y < c x) = false := decide_eq_false hq
                have hnx := Hid.mk' (HKP.out (fun h => hq h.2))
                clear hp hq HKP HSW HCE HSS
                go_wp2
                go_roundw
                case rel => exact ⟨ag, i + 1, L2, rfl, by go_num, by omega, by omega, hnx, HO3, HB3, p3⟩
                case measure => simp [intOf]; omega
            · have hd : decide (0 < c y) = false := decide_eq_false hp
              have hnx := Hid.mk' (HKP.out (fun h => hp h.1))
              clear hp HKP HSW HCE HSS
              go_wp2
              go_roundw
              case rel => exact ⟨ag, i + 1, L2, rfl, by go_num, by omega, by omega, hnx, HO3, HB3, p3⟩
              case measure => simp [intOf]; omega
          · have hd : decide ((i : Int) < (n : Int)) = false := decide_eq_false (by omega)
            have HEND : Hid (∃ L, L.length = n ∧ wr.ownsRow (w.heap.size + 1) 21 1 (.slice (some ⟨g, 0, none⟩) n gcap) n (L.map (Value.int .i32)) ∧ orderM c L = orderM c l ∧ (ag = false → InOrder c L) ∧ (ag = true → BD + 1 ≤ gk - 1 + wgt c 0 L)) := by
              obtain ⟨h1, h2, h3, h4⟩ := HI.out
              refine ⟨L2, h1, HO.out, h2, fun ha => ?_, fun ha => ?_⟩
              · obtain ⟨rfl, h5⟩ := h3 ha
                exact fun k hk => h5 k (by omega) (by omega)
              · have := h4 ha
                have := HGK.out
                omega
            clear HI HO HK HEE
            go_wp2
            go_roundg (gk - 1)
            case measure => omega
            case rel => exact ⟨ag, rfl, HEND, HB, hgs⟩
end Go.Proofs.YtoceaielclomcaaRRGreatDoor

/-
  What is proved here: what checkTwice answers at a norm that is right but for rows that compose alike.
-/
import Derived.Test.YtlnehhfljjeifaaDoorA7
import Derived.Test.YtlnehhfljjeifaaDoorB1
import Derived.Test.YtlnehhfljjeifaaDoorT3
import Derived.Maps.Keyed
import Derived.WideKeyPair
namespace Go.Proofs.YtlnehhfljjeifaaDoor
open Go.RowKit Go.WideMaps

def pairV (x y : Int) : Value := .agg #[.int .i32 x, .int .i32 y]
theorem Tryd.arrKey : ArrKey Tryd.prog 81 21 2 := ⟨Tryd.underlying81, by kernel_rfl, by kernel_rfl, by kernel_rfl⟩
theorem Tryd.keyed : Maps.Keyed Tryd.prog 81 := Maps.Keyed.of_law Tryd.arrKey.law
theorem key_pair {x y : Int} (hx : rightR x = true) (hy : rightR y = true) : ∃ l, keyOf Tryd.prog 81 (pairV x y) = some l := by
  have wf : ∀ z, rightR z = true → (Lit.int .i32 z).wf = true := fun z hz => by
    unfold rightR at hz
    rw [decide_eq_true_eq] at hz
    unfold Lit.wf IntKind.min IntKind.max
    simp [IntKind.signed, IntKind.bits]
    omega
  exact ⟨_, keyOf_pair Tryd.arrKey Tryd.underlying21 ⟨143 - 1, by kernel_rfl⟩ (wf x hx) (wf y hy)⟩
/-- the entries of a map are pairs of right runes -/
def Pairs (es : Array MapEntry) : Prop := ∀ e ∈ es.toList, ∃ x y, rightR x = true ∧ rightR y = true ∧ e.key = pairV x y
theorem Pairs.keys {es : Array MapEntry} (h : Pairs es) : ∀ e ∈ es.toList, ∃ l, keyOf Tryd.prog 81 e.key = some l := fun e he => by
  obtain ⟨x, y, hx, hy, e1⟩ := h e he
  rw [e1]; exact key_pair hx hy
theorem look_pair (W : World) (m : Nat) (es : Array MapEntry) (clk : Nat) (x y : Int) (hb : W.heap[m]? = some (.map es clk)) (hes : Pairs es) (hx : rightR x = true) (hy : rightR y = true) :
    ∃ v fd, (Instr.lookup 79 (.map (some m)) (.agg #[.int .i32 x, .int .i32 y]) true).run Tryd.prog W = .ok (.tuple #[v, .bool fd]) W ∧ ((fd = false ∧ ∀ e ∈ es.toList, e.key ≠ pairV x y) ∨ (fd = true ∧ ∃ e ∈ es.toList, e.key = pairV x y)) := by
  obtain ⟨kl, hkey⟩ := key_pair hx hy
  have hz : (zeroValue 3).run Tryd.prog W = .ok (.int .i64 0) W := Tryd.zeroValue3 W
  rcases Tryd.keyed.find W hkey es.toList hes.keys with ⟨h1, h2⟩ | ⟨j, e0, h1, h2, h3⟩
  · unfold pairV at hkey h1
    refine ⟨.int .i64 0, false, ?_, .inl ⟨rfl, h2⟩⟩
    simp [Instr.lookup, run_underlying Tryd.underlying79, MapKept.run_getObj_map hb, Tryd.keyed.check W _ hkey, h1, hz, Result.andThen]
  · unfold pairV at hkey h1
    refine ⟨e0.val, true, ?_, .inr ⟨rfl, e0, List.mem_of_getElem? h2, h3⟩⟩
    simp [Instr.lookup, run_underlying Tryd.underlying79, MapKept.run_getObj_map hb, Tryd.keyed.check W _ hkey, h1, Result.andThen]
theorem update_pair (W : World) (m : Nat) (es : Array MapEntry) (clk : Nat) (x y : Int) (val : Value) (hb : W.heap[m]? = some (.map es clk)) (hes : Pairs es) (hx : rightR x = true) (hy : rightR y = true) (hno : ∀ e ∈ es.toList, e.key ≠ pairV x y) :
    ∃ W', (Instr.mapUpdate 79 (.map (some m)) (.agg #[.int .i32 x, .int .i32 y]) val).run Tryd.prog W = .ok () W' ∧ W'.heap[m]? = some (.map (es.push ⟨pairV x y, val, clk⟩) (clk + 1)) ∧ ∀ B w0, B ≤ m → Below B w0 W → Below B w0 W' := by
  obtain ⟨kl, hkey⟩ := key_pair hx hy
  have hlt := lt_of_block3 hb
  rcases Tryd.keyed.find W hkey es.toList hes.keys with ⟨h1, h2⟩ | ⟨j, e0, h1, h2, h3⟩
  · unfold pairV at hkey h1
    refine ⟨{ W with heap := W.heap.setIfInBounds m (.map (es.push ⟨pairV x y, val, clk⟩) (clk + 1)) }, ?_, ?_, ?_⟩
    · simp [Instr.mapUpdate, run_underlying Tryd.underlying79, MapKept.run_getObj_map hb, Tryd.keyed.check W false hkey, h1, MapKept.run_setObj_map _ hb, Result.andThen, pairV]
    · simp [hlt]
    · intro B w0 hB h
      refine ⟨h.os, h.tape, h.output, by simpa using h.size, fun k hk => ?_⟩
      rw [← h.block k hk]
      show (W.heap.setIfInBounds m _)[k]? = _
      rw [Array.getElem?_setIfInBounds_ne (by omega)]
  · exact absurd h3 (hno e0 (List.mem_of_getElem? h2))
/-- the entries are just the pairs of the rows that compose, among the first k -/
def Twos (t : Nm) (k : Nat) (es : Array MapEntry) : Prop :=
  (∀ e ∈ es.toList, ∃ j, j < k ∧ composesM t j = true ∧ e.key = pairV (rw_ t.rows j).to0 (rw_ t.rows j).to1) ∧ (∀ j, j < k → composesM t j = true → ∃ e ∈ es.toList, e.key = pairV (rw_ t.rows j).to0 (rw_ t.rows j).to1)
theorem pairV_inj {x y x' y' : Int} (h : pairV x y = pairV x' y') : x = x' ∧ y = y' := by
  unfold pairV at h; simpa using h
theorem comp_two {t : Nm} {j : Nat} (h : composesM t j = true) : (rw_ t.rows j).to.length = 2 := by
  unfold composesM at h
  rw [Bool.and_eq_true, Bool.and_eq_true, Bool.and_eq_true, decide_eq_true_eq] at h
  exact h.1.1.1
theorem to_right {t : Nm} (hc : ∀ i, i < t.rows.length → rowCode t.rows i = 0) {j : Nat} (hj : j < t.rows.length) (h : (rw_ t.rows j).to.length = 2) : rightR (rw_ t.rows j).to0 = true ∧ rightR (rw_ t.rows j).to1 = true := by
  obtain ⟨-, -, h0, hall⟩ := formed_parts (rowCode_zero (hc j hj)).2.2.1
  refine ⟨(may_right h0).1, (may_right (hall _ ?_)).1⟩
  unfold Rw.to1
  rw [List.getD, List.getElem?_eq_getElem (by omega)]
  exact List.getElem_mem _
theorem Twos.pairs {t : Nm} {k : Nat} {es : Array MapEntry} (h : Twos t k es) (hk : k ≤ t.rows.length) (hc : ∀ i, i < t.rows.length → rowCode t.rows i = 0) : Pairs es := fun e he => by
  obtain ⟨j, hj, hcm, e1⟩ := h.1 e he
  obtain ⟨h0, h1⟩ := to_right hc (by omega) (comp_two hcm)
  exact ⟨_, _, h0, h1, e1⟩
theorem Twos.skip {t : Nm} {k : Nat} {es : Array MapEntry} (h : Twos t k es) (hn : composesM t k = false) : Twos t (k + 1) es := by
  refine ⟨fun e he => ?_, fun j hj hcm => ?_⟩
  · obtain ⟨j, hj, h1⟩ := h.1 e he
    exact ⟨j, by omega, h1⟩
  · rcases Nat.lt_or_ge j k with g | g
    · exact h.2 j g hcm
    · obtain rfl : j = k := by omega
      rw [hn] at hcm; cases hcm
theorem Twos.push {t : Nm} {k : Nat} {es : Array MapEntry} (h : Twos t k es) (hy : composesM t k = true) (val : Value) (clk : Nat) : Twos t (k + 1) (es.push ⟨pairV (rw_ t.rows k).to0 (rw_ t.rows k).to1, val, clk⟩) := by
  refine ⟨fun e he => ?_, fun j hj hcm => ?_⟩
  · simp only [Array.toList_push, List.mem_append, List.mem_singleton] at he
    rcases he with he | rfl
    · obtain ⟨j, hj, h1⟩ := h.1 e he
      exact ⟨j, by omega, h1⟩
    · exact ⟨k, by omega, hy, rfl⟩
  · rcases Nat.lt_or_ge j k with g | g
    · obtain ⟨e, he, h1⟩ := h.2 j g hcm
      exact ⟨e, by simp [he], h1⟩
    · obtain rfl : j = k := by omega
      exact ⟨⟨pairV (rw_ t.rows j).to0 (rw_ t.rows j).to1, val, clk⟩, by simp, rfl⟩
theorem there_hit {t : Nm} {k : Nat} {es : Array MapEntry} (h : Twos t k es) (hy : composesM t k = true) (he : ∃ e ∈ es.toList, e.key = pairV (rw_ t.rows k).to0 (rw_ t.rows k).to1) : thereCode t k = 7 := by
  obtain ⟨e, he, e1⟩ := he
  obtain ⟨j, hj, hcm, e2⟩ := h.1 e he
  obtain ⟨h0, h1⟩ := pairV_inj (e2.symm.trans e1)
  unfold thereCode
  rw [if_pos]
  refine ⟨hy, List.any_eq_true.2 ⟨j, by simpa using hj, ?_⟩⟩
  rw [hcm, h0, h1]; simp
theorem there_miss {t : Nm} {k : Nat} {es : Array MapEntry} (h : Twos t k es) (he : ∀ e ∈ es.toList, e.key ≠ pairV (rw_ t.rows k).to0 (rw_ t.rows k).to1) : thereCode t k = 0 := by
  unfold thereCode
  rw [if_neg]
  rintro ⟨-, ha⟩
  obtain ⟨j, hj, h2⟩ := List.any_eq_true.1 ha
  rw [Bool.and_eq_true, Bool.and_eq_true, beq_iff_eq, beq_iff_eq] at h2
  obtain ⟨hcm, h0, h1⟩ := h2
  obtain ⟨e, hm, e1⟩ := h.2 j (by simpa using hj) hcm
  exact he e hm (by rw [e1, h0, h1])
theorem there_not {t : Nm} {k : Nat} (h : composesM t k = false) : thereCode t k = 0 := by
  unfold thereCode
  rw [if_neg]
  rintro ⟨h1, -⟩
  rw [h] at h1; cases h1
set_option maxRecDepth 20000 in
set_option maxHeartbeats 8000000 in
theorem checkTwice_any (vr vc ve : Value) (t : Nm) (w : World) (p : Nat → Addr) (hg : Gl p w) (hR : Rows4 w vr t.rows) (hC : Tab w vc t.cls) (hE : Runes w ve t.exc) (hl : t.rows.length ≤ 2000) (hlc : t.cls.length ≤ 2147483648) (hle : t.exc.length ≤ 2147483648) (hm : Rises t.cls) (ha : Apart t.cls) (hx : ∀ i j, i < j → j < t.exc.length → t.exc.getD i 0 < t.exc.getD j 0) (hc : ∀ i, i < t.rows.length → rowCode t.rows i = 0) :
    Calls Tryd.prog 26 #[.agg #[vr, vc, ve]] w fun e w' => ∃ fv, e = .returned fv ∧ Says w' fv w.heap.size p (ff (thereCode t) t.rows.length) ∧ Below w.heap.size w w' := by
  obtain ⟨W0, hW0⟩ : ∃ W0, w.alloc (.cells #[vr, vc, ve] 26) = W0 := ⟨_, rfl⟩
  have hsz0 : W0.heap.size = w.heap.size + 1 := by rw [← hW0, World.size_alloc]
  have hb0 : Below w.heap.size w W0 := by rw [← hW0]; exact (Below.refl _ w).alloc (Nat.le_refl _) _
  have HCM : Hid (∀ W i, Below w.heap.size w W → i < t.rows.length → _) := fun W i hb hi => composes_any vr vc ve t i W (hR.below hb) (hC.below hb) (hE.below hb) (by omega) hlc hle hm ha hx hi
  obtain ⟨a, cap, rfl, hTj⟩ := id hR
  obtain ⟨ca, ccap, rfl, -⟩ := id hC
  obtain ⟨ea, ecap, rfl, -⟩ := id hE
  have e0 : W0.cell? ⟨w.heap.size, 0, none⟩ = some (.slice a t.rows.length cap) := by rw [← hW0, World.cell?_alloc_new]; rfl
  have e1 : W0.cell? ⟨w.heap.size, 1, none⟩ = some (.slice ca t.cls.length ccap) := by rw [← hW0, World.cell?_alloc_new]; rfl
  have e2 : W0.cell? ⟨w.heap.size, 2, none⟩ = some (.slice ea t.exc.length ecap) := by rw [← hW0, World.cell?_alloc_new]; rfl
  have HE : Hid (∀ W, Below (w.heap.size + 1) W0 W → (W.cell? ⟨w.heap.size, 0, none⟩ = some (.slice a t.rows.length cap) ∧ W.cell? ⟨w.heap.size, 1, none⟩ = some (.slice ca t.cls.length ccap) ∧ W.cell? ⟨w.heap.size, 2, none⟩ = some (.slice ea t.exc.length ecap)) ∧ Below w.heap.size w W) := fun W hb => ⟨⟨(hb.cell (p := ⟨w.heap.size, 0, none⟩) (Nat.lt_succ_self _)).trans e0, (hb.cell (p := ⟨w.heap.size, 1, none⟩) (Nat.lt_succ_self _)).trans e1, (hb.cell (p := ⟨w.heap.size, 2, none⟩) (Nat.lt_succ_self _)).trans e2⟩, hb0.trans (hb.mono (Nat.le_succ _))⟩
  obtain ⟨W1, hW1⟩ : ∃ W1, W0.alloc (.map #[] 0) = W1 := ⟨_, rfl⟩
  have hm1 : W1.heap[w.heap.size + 1]? = some (.map #[] 0) := by rw [← hW1, ← hsz0]; exact Array.getElem?_push_size
  have hb1 : Below (w.heap.size + 1) W0 W1 := by rw [← hW1]; exact (Below.refl _ _).alloc (by omega) _
  obtain ⟨⟨k0, -, -⟩, -⟩ := HE.out W1 hb1
  have hmkm : (Instr.makeMap 79 none).run Tryd.prog W0 = .ok (.map (some (w.heap.size + 1))) W1 := by rw [← hW1, ← hsz0]; rfl
  have HT := Hid.mk' hTj
  have HG : Hid (∀ W, Below w.heap.size w W → Gl p W) := fun W hb => hg.below hb
  have HCC := Hid.mk' hc
  clear hR hC hE hTj hg hm ha hx hc hb0
  go_enter Tryd.func26, Tryd.ntmps26
  go_wp2
  go_loopw [13] (fun y wr => ∃ (k : Nat) (es : Array MapEntry) (clk : Nat), y = .int .i64 k ∧ k ≤ t.rows.length ∧ wr.heap[w.heap.size + 1]? = some (.map es clk) ∧ Hid (Twos t k es) ∧ Hid (∀ i, i < k → thereCode t i = 0) ∧ Below (w.heap.size + 1) W0 wr) (fun y _ => t.rows.length - (intOf y).toNat)
  case atStart => exact ⟨0, #[], 0, rfl, Nat.zero_le _, hm1, ⟨by simp, fun j hj => by omega⟩, fun i hi => by omega, hb1⟩
  case round =>
    obtain ⟨k, es, clk, rfl, hk, hmap, htw, hok, hb⟩ := hrel
    have hszr : w.heap.size + 1 ≤ wr.heap.size := by have := hb.size; omega
    clear hmkm k0 hm1 hb1 hW1 e0 e1 e2
    by_cases hlt : k < t.rows.length
    · obtain ⟨b, off, tv, rfl, d0w, d1w, ta, tcap, rfl, hRt⟩ := HT.out k hlt
      obtain ⟨-, hbw⟩ := HE.out wr hb
      have d0 := (hbw.cell (p := ⟨b, off + k * 2, none⟩) (lt_of_cell d0w)).trans d0w
      have d1 := (hbw.cell (p := ⟨b, off + k * 2 + 1, none⟩) (lt_of_cell d1w)).trans d1w
      clear d0w d1w
      obtain ⟨WA, hWA⟩ : ∃ WA, wr.alloc (.cells #[.int .i32 (rw_ t.rows k).fr, .slice ta (rw_ t.rows k).to.length tcap] 53) = WA := ⟨_, rfl⟩
      have hbA : Below (w.heap.size + 1) W0 WA := by rw [← hWA]; exact hb.alloc hszr _
      have hbr : Below wr.heap.size wr WA := by rw [← hWA]; exact (Below.refl _ _).alloc (Nat.le_refl _) _
      have hszA : WA.heap.size = wr.heap.size + 1 := by rw [← hWA, World.size_alloc]
      have r1 : WA.cell? ⟨wr.heap.size, 1, none⟩ = some (.slice ta (rw_ t.rows k).to.length tcap) := by rw [← hWA, World.cell?_alloc_new]; rfl
      obtain ⟨⟨kA0, kA1, kA2⟩, hbwA⟩ := HE.out WA hbA
      have HCk := Hid.mk' (HCM.out WA k hbwA hlt)
      have hmA : ∀ w1, Below WA.heap.size WA w1 → w1.heap[w.heap.size + 1]? = some (.map es clk) := fun w1 h1 => by
        have hml := lt_of_block3 hmap
        rw [h1.block _ (by omega), hbr.block _ (by omega)]
        exact hmap
      have HMA := Hid.mk' hmA
      clear hmA
      cases hcm : composesM t k
      · have hnext := Hid.mk' (htw.out.skip hcm)
        have hokn : Hid (∀ i, i < k + 1 → thereCode t i = 0) := fun i hi => by
          rcases Nat.lt_or_ge i k with g | g
          · exact hok.out i g
          · obtain rfl : i = k := by omega
            exact there_not hcm
        rw [hcm] at HCk
        clear hcm hRt htw hok
        generalize (rw_ t.rows k).to.length = tn at *
        generalize (rw_ t.rows k).fr = fr at *
        go_wp2_with fail
        refine HCk.out.mono ?_
        rintro e w1 ⟨rfl, hb2⟩
        have hm2 := HMA.out w1 hb2
        go_wp2
        go_roundw
        case rel => exact ⟨k + 1, es, clk, by go_num, by omega, hm2, hnext, hokn, hbA.trans (hb2.mono (by omega))⟩
        case measure => simp [intOf]; omega
      · have h2 := comp_two hcm
        obtain ⟨hr0, hr1⟩ := to_right HCC.out hlt h2
        obtain ⟨tb, toff, rfl, c0w⟩ := hRt 0 (by omega)
        obtain ⟨tb2, toff2, ee, c1w⟩ := hRt 1 (by omega)
        obtain ⟨rfl, rfl⟩ : tb = tb2 ∧ toff = toff2 := by simpa using ee
        rw [Nat.add_zero] at c0w
        have HC0 : Hid (∀ W, Below w.heap.size w W → W.cell? ⟨tb, toff, none⟩ = some (.int .i32 (rw_ t.rows k).to0) ∧ W.cell? ⟨tb, toff + 1, none⟩ = some (.int .i32 (rw_ t.rows k).to1)) := fun W hb => ⟨(hb.cell (p := ⟨tb, toff, none⟩) (lt_of_cell c0w)).trans c0w, (hb.cell (p := ⟨tb, toff + 1, none⟩) (lt_of_cell c1w)).trans c1w⟩
        have HTH : Hid ((∃ e ∈ es.toList, e.key = pairV (rw_ t.rows k).to0 (rw_ t.rows k).to1) → ff (thereCode t) t.rows.length = (k, 7)) := fun he => by
          have e7 := there_hit htw.out hcm he
          have := ff_at (thereCode t) t.rows.length k hlt hok.out (by rw [e7]; decide)
          rwa [e7] at this
        have HTM : Hid ((∀ e ∈ es.toList, e.key ≠ pairV (rw_ t.rows k).to0 (rw_ t.rows k).to1) → ∀ i, i < k + 1 → thereCode t i = 0) := fun he i hi => by
          rcases Nat.lt_or_ge i k with g | g
          · exact hok.out i g
          · obtain rfl : i = k := by omega
            exact there_miss htw.out he
        have HPU : Hid (∀ val clk, Twos t (k + 1) (es.push ⟨pairV (rw_ t.rows k).to0 (rw_ t.rows k).to1, val, clk⟩)) := fun val clk => htw.out.push hcm val clk
        have HPR : Hid (Pairs es) := htw.out.pairs hk HCC.out
        rw [hcm] at HCk
        rw [h2] at r1
        rw [h2] at d1
        rw [h2] at hWA
        clear hRt c0w c1w ee hcm htw hok h2
        generalize (rw_ t.rows k).to0 = t0 at *
        generalize (rw_ t.rows k).to1 = t1 at *
        generalize (rw_ t.rows k).fr = fr at *
        go_wp2_with fail
        refine HCk.out.mono ?_
        rintro e w1 ⟨rfl, hb2⟩
        have hm2 := HMA.out w1 hb2
        have hb2' : Below (w.heap.size + 1) W0 w1 := hbA.trans (hb2.mono (by omega))
        obtain ⟨⟨q0, q1, q2⟩, hbw1⟩ := HE.out w1 hb2'
        obtain ⟨c0, c1⟩ := HC0.out w1 hbw1
        have r2 := (hb2.cell (p := ⟨wr.heap.size, 1, none⟩) (by show wr.heap.size < _; omega)).trans r1
        have hsz1 : w.heap.size + 1 < w1.heap.size := lt_of_block3 hm2
        clear HCk HMA kA0 kA1 kA2 r1 d0 d1 hb2
        have zz : ∀ (q : Addr) (v : Value), w1.cell? q = some v → q.spot = none → (w1.alloc (.cells #[.int .i32 0, .int .i32 0] 81)).cell? q = some v := fun q v h hs => by
          obtain ⟨qb, qo, qs⟩ := q
          obtain rfl : qs = none := hs
          rw [World.cell?_alloc_lt _ _ ⟨qb, qo, none⟩ (lt_of_cell h)]; exact h
        have z2 := zz _ _ r2 rfl
        have z0 := zz _ _ c0 rfl
        have z1 := zz _ _ c1 rfl
        clear zz
        go_wp2
        go_region
        clear z0 z1 z2 c0 c1 r2 q0 q1 q2
        obtain ⟨WB, hWB⟩ : ∃ WB, (w1.alloc (.cells #[.int .i32 t0, .int .i32 t1] 81)).drew = WB := ⟨_, rfl⟩
        have hbB : Below (w.heap.size + 1) W0 WB := by rw [← hWB]; exact (hb2'.alloc (by omega) _).drew
        have hmB : WB.heap[w.heap.size + 1]? = some (.map es clk) := by
          rw [← hWB]
          show (w1.alloc (.cells #[.int .i32 t0, .int .i32 t1] 81)).heap[w.heap.size + 1]? = _
          have := ((Below.refl w1.heap.size w1).alloc (Nat.le_refl _) (.cells #[.int .i32 t0, .int .i32 t1] 81)).block _ hsz1
          rw [this]; exact hm2
        have b0 : WB.cell? ⟨w1.heap.size, 0, none⟩ = some (.int .i32 t0) := by rw [← hWB]; show (w1.alloc _).cell? _ = _; rw [World.cell?_alloc_new]; rfl
        have b1 : WB.cell? ⟨w1.heap.size, 1, none⟩ = some (.int .i32 t1) := by rw [← hWB]; show (w1.alloc _).cell? _ = _; rw [World.cell?_alloc_new]; rfl
        obtain ⟨lv, fd, hlook, hfd⟩ := look_pair WB _ es clk t0 t1 hmB HPR.out hr0 hr1
        obtain ⟨-, hbwB⟩ := HE.out WB hbB
        have g7 := (HG.out WB hbwB).g7
        rcases hfd with ⟨rfl, hno⟩ | ⟨rfl, hyes⟩
        · obtain ⟨W9, hupd, hm9, hb9⟩ := update_pair WB _ es clk t0 t1 (.int .i64 k) hmB HPR.out hr0 hr1 hno
          have hokn := Hid.mk' (HTM.out hno)
          have hb9' := hb9 _ W0 (Nat.le_refl _) hbB
          have htwn := Hid.mk' (HPU.out (.int .i64 k) clk)
          clear hno HTM HTH HPU HPR g7 hb9 HG HE HC0 HT HCC HCM
          go_wp2
          go_roundw
          case rel => exact ⟨k + 1, _, _, by go_num, by omega, hm9, htwn, hokn, hb9'⟩
          case measure => simp [intOf]; omega
        · have hsay := Hid.mk' (HTH.out hyes)
          clear hyes HTM HTH HPU HPR HG HE HC0 HT HCC HCM
          go_wp2
          go_ret
          refine ⟨_, rfl, ?_, hbwB.alloc hbwB.size _⟩
          rw [hsay.out]
          exact .inr ⟨by simp, flt_new hbwB.size _ _⟩
    · obtain rfl : k = t.rows.length := by omega
      have hsay : Hid (ff (thereCode t) t.rows.length = (0, 0)) := ff_none _ _ hok.out
      obtain ⟨-, hbw⟩ := HE.out wr hb
      clear HT HG HE hok HCM
      go_wp2
      go_ret
      exact ⟨_, rfl, .inl ⟨hsay.out, rfl⟩, hbw⟩
end Go.Proofs.YtlnehhfljjeifaaDoor

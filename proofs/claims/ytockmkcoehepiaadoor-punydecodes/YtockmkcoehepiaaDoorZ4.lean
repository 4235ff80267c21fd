/-
  What is proved here: what puny's encoder does: the runes that are written as they are; a rune that is put in.
-/
import Derived.Test.YtockmkcoehepiaaDoorZ3
import Derived.Deep.AppendLies
import Derived.Deep.RegionLaw
import Derived.OneCell
namespace Go.Proofs.YtockmkcoehepiaaDoor
open Go.RowKit

/-- who encodes, in the block B; v: what is written -/
def EncAt (w : World) (B : Nat) (s : Est) (v : Value) : Prop :=
  Blk w B 77 [.int .i64 s.bias, .bool (!s.first), .int .i64 s.n, .int .i64 s.i, .int .i64 s.m, v] ∧ w.ownsRow (B + 1) 5 1 v s.out.length (s.out.map (Value.int .u8))
theorem EncAt.below {w w' : World} {B : Nat} {s : Est} {v : Value} (h : EncAt w B s v) (hb : Below w.heap.size w w') : EncAt w' B s v := ⟨h.1.below hb, owns_below h.2 hb⟩
def EncIs (w : World) (B : Nat) (s : Est) : Prop := ∃ v, EncAt w B s v
/-- nothing but the block B, and what is written, has turned -/
def Kp (B : Nat) (v : Value) (w w' : World) : Prop := w.heap.size ≤ w'.heap.size ∧ ∀ k, k < w.heap.size → k ≠ B → some k ≠ v.ownBlock → w'.heap[k]? = w.heap[k]?
/-- a slice in a struct's cell grows -/
theorem blk_push {B o n n' : Nat} {T E : TypeId} {xs cs cs' : List Value} {W w1 : World} {v v' : Value} (hv : Blk W B T xs) (hx : xs[o]? = some v) (hown : W.ownsRow (B + 1) E 1 v n cs)
    (hown' : w1.ownsRow (B + 1) E 1 v' n' cs') (hgrow : W.grownBy w1 v.ownBlock) :
    w1.cell? ⟨B, o, none⟩ = some v ∧ w1.frozen? ⟨B, o, none⟩ = false ∧ Blk (w1.setCell ⟨B, o, none⟩ v') B T (xs.set o v') ∧ (w1.setCell ⟨B, o, none⟩ v').ownsRow (B + 1) E 1 v' n' cs' ∧ Below B W (w1.setCell ⟨B, o, none⟩ v') := by
  have hB := hv.lt
  have hlt : ∀ j, v.ownBlock = some j → B + 1 ≤ j := fun j hj => (hown.lt j hj).1
  have hv1 : Blk w1 B T xs := (hgrow.block B hB (fun e => by have := hlt B e.symm; omega)).trans hv
  have hne' : v'.ownBlock ≠ some B := fun e => by have := (hown'.lt B e).1; omega
  refine ⟨hv1.cell o hx, hv1.free o, hv1.set o v', ownsRow_setCell_other hown' (a := ⟨B, o, none⟩) hne' v', ?_⟩
  exact Below.setCell (p := ⟨B, o, none⟩) ((Below.refl B W).grown hgrow (by omega) (fun j hj => by have := hlt j hj; omega)) (Nat.le_refl B) _
theorem owns_on {B B' : Nat} {e : TypeId} {k : Nat} {v : Value} {n : Nat} {xs : List Value} {w w' : World} (h : w.ownsRow B' e k v n xs) (ho : On B w w') (hB : B < B') : w'.ownsRow B' e k v n xs := by
  refine h.kept (row := some B) ho ?_
  cases hv : v.ownBlock with
  | none => exact .inl rfl
  | some k => exact .inr (by have := (h.lt k hv).1; intro e; have := Option.some.inj e; omega)
theorem own_some {B : Nat} {e : TypeId} {k : Nat} {v : Value} {n : Nat} {xs : List Value} {w : World} (h : w.ownsRow B e k v n xs) (hn : 0 < n) : ∃ g c, v = .slice (some ⟨g, 0, none⟩) n c := by
  rcases h.2 with ⟨rfl, h0⟩ | ⟨g, cap, cur, rfl, _, _⟩
  · omega
  · exact ⟨_, _, rfl⟩
theorem dig_pos (d bias : Int) : 0 < (digM d bias).length := by
  unfold digM
  rw [List.length_map]
  cases d.toNat with
  | zero => simp [digR]
  | succ f => rw [digR]; split <;> simp
theorem own_cells {B : Nat} {e : TypeId} {g c n : Nat} {bs : List Int} {w : World} (h : w.ownsRow B e 1 (.slice (some ⟨g, 0, none⟩) n c) n (bs.map (Value.int .u8))) : ∀ j u, (bs.map (Value.int .u8))[j]? = some u → w.cell? ((⟨g, 0, none⟩ : Addr).add j) = some u := by
  intro j u hu
  have hj : j < (bs.map (Value.int .u8)).length := (List.getElem?_eq_some_iff.1 hu).1
  have hl : (bs.map (Value.int .u8)).length = n := by have := h.1; omega
  have e1 : (⟨g, 0, none⟩ : Addr).add j = ⟨g, j, none⟩ := by simp [Addr.add]; omega
  rw [e1, h.cellAt j (by omega)]
  exact hu
set_option maxRecDepth 100000 in
set_option maxHeartbeats 4000000 in
theorem put_any (B : Nat) (s : Est) (r a : Int) (w : World) (v : Value) (h : EncAt w B s v) (hok : EOk s) (hr : s.n ≤ r) (hr1 : r ≤ 1114111) (ha : 0 ≤ a) (ha1 : a ≤ s.m) (hn : s.n < r ∨ s.i ≤ a) (hm : s.m + 1 ≤ 120) (hlen : s.out.length ≤ 100000) :
    Calls Tryd.prog 54 #[.pointer (some ⟨B, 0, none⟩), .int .i64 r, .int .i64 a] w fun e w' => e = .returned (.tuple #[]) ∧ (∃ v', EncAt w' B (putE s r a) v' ∧ (v'.ownBlock = v.ownBlock ∨ ∃ k, v'.ownBlock = some k ∧ w.heap.size ≤ k)) ∧ Kp B v w w' ∧ Below B w w' := by
  obtain ⟨i0, hi, hz0, hz1, hz2⟩ := info_parts Tryd.infoByte
  have hd := num_bd hok hr hr1 ha ha1 hn
  obtain ⟨n0, n1, i0', i1, m1, b0, b1⟩ := hok
  obtain ⟨h1, h2⟩ := h
  have hBs := h1.lt
  have HUP := Hid.mk' (upTo_any B s.n s.i s.m r a w (h1.cell 2 rfl) (h1.cell 3 rfl) (h1.cell 4 rfl) ⟨by omega, n1⟩ ⟨i0', by omega⟩ ⟨by omega, by omega⟩ ⟨by omega, hr1⟩ ⟨ha, by omega⟩)
  rw [show (r - s.n) * (s.m + 1) + a - s.i = numE s r a from rfl] at HUP
  have hq1 : r = s.n + (numE s r a + s.i) / (s.m + 1) ∧ a = (numE s r a + s.i) % (s.m + 1) := by
    have e : numE s r a + s.i = a + (r - s.n) * (s.m + 1) := by unfold numE; omega
    rw [e, Int.add_mul_ediv_right _ _ (by omega), Int.add_mul_emod_self_right, Int.ediv_eq_zero_of_lt ha (by omega), Int.emod_eq_of_lt ha (by omega)]
    omega
  have HQ := Hid.mk' hq1
  have HPE : Hid (putE s r a = ⟨r, a + 1, s.m + 1, biasM (numE s r a) (s.m + 1) s.first, false, s.out ++ digM (numE s r a) s.bias⟩) := rfl
  have hdl := dig_len (bias := s.bias) hd.1 hd.2
  have hdp := dig_pos (numE s r a) s.bias
  generalize numE s r a = d at *
  generalize putE s r a = P at *
  obtain ⟨hd0, hd1⟩ := hd
  have HDG : Hid (∀ W, Below w.heap.size w W → _) := fun W hW => digits_any B s.bias d W ((hW.cell (p := ⟨B, 0, none⟩) hBs).trans (h1.cell 0 rfl)) b0 (by omega) hd0 hd1
  have HSS : Hid (∀ W, Below w.heap.size w W → W.cell? ⟨B, 5, none⟩ = some v) := fun W hW => (hW.cell (p := ⟨B, 5, none⟩) hBs).trans (h1.cell 5 rfl)
  generalize digM d s.bias = D at *
  have HST : Hid (∀ W, Below w.heap.size w W → Blk W B 77 [.int .i64 s.bias, .bool (!s.first), .int .i64 s.n, .int .i64 s.i, .int .i64 s.m, v] ∧ W.ownsRow (B + 1) 5 1 v s.out.length (s.out.map (Value.int .u8))) := fun W hW => ⟨h1.below hW, owns_below h2 hW⟩
  obtain ⟨xa, xc, rfl⟩ := own_slice h2
  clear h1 h2 hq1
  have HTR : Hid (∀ W W', Below w.heap.size w W → Below W.heap.size W W' → Below w.heap.size w W') := fun W W' h h' => h.trans (h'.mono h.size)
  go_enter Tryd.func54, Tryd.ntmps54
  go_wp2_with fail
  refine HUP.out.mono ?_
  rintro e w1 ⟨rfl, q, rfl⟩
  have hz : Below w.heap.size w (w.drewN q).drew := ⟨rfl, rfl, rfl, Nat.le_refl _, fun _ _ => rfl⟩
  generalize w.drewN q = w1 at *
  clear HUP
  go_wp2
  have hB0 := (HST.out _ hz).1
  have c50 := hB0.cell 5 rfl
  have c50' : w1.cell? ⟨B, 5, none⟩ = some (.slice xa s.out.length xc) := c50
  clear hB0
  go_region_law (first
    | (refine step_append_lies _ (by rfl) _ _ 75 (by rfl) (B + 1) 5 i0 (.int .u8 0) 1 1 Tryd.underlying75 hi hz0 hz1 hz2 rfl (by omega) (.slice xa s.out.length xc) s.out.length (s.out.map (Value.int .u8)) (by rfl) hO1 ⟨gd, 0, none⟩ D.length cd (D.map (Value.int .u8)) (by rfl) (by simp) (own_cells hownD) (ints_one _ _) hdp (by unfold maxLen; omega) (by omega) (by have := hB1.lt; omega) _ rfl ?_; intro g cap w2 hown' hgrow hat hlt'; obtain ⟨cW2, fW2, hh1, hh2, hbel⟩ := blk_push hB1 (o := 5) rfl hO1 hown' hgrow)
    | (go_simp; go_at_call 65; refine (HDG.out _ ?_).mono ?_; assumption; rintro e wS ⟨vd, rfl, hownD, hbS⟩; obtain ⟨gd, cd, rfl⟩ := own_some hownD hdp; have hzS := HTR.out _ _ (by assumption) hbS; obtain ⟨hB1, hO1⟩ := HST.out _ hzS; have c51 := hB1.cell 5 rfl))
  all_goals
    have hb3 : Below B w (w2.setCell ⟨B, 5, none⟩ (.slice (some ⟨g, 0, none⟩) (s.out.length + D.length) cap)) := (hzS.mono (by omega)).trans hbel
    have HK3 : Hid (Kp B (.slice xa s.out.length xc) w (w2.setCell ⟨B, 5, none⟩ (.slice (some ⟨g, 0, none⟩) (s.out.length + D.length) cap))) := by
      refine ⟨hb3.size, fun k hk hkB hkv => ?_⟩
      rw [Below.heap_setCell _ _ _ _ (by show k ≠ B; exact hkB), hgrow.block k (by have := hzS.size; omega) hkv]
      exact hzS.block k hk
    have HOB : Hid ((Value.slice (some ⟨g, 0, none⟩) (s.out.length + D.length) cap).ownBlock = (Value.slice xa s.out.length xc).ownBlock ∨ ∃ k, (Value.slice (some ⟨g, 0, none⟩) (s.out.length + D.length) cap).ownBlock = some k ∧ w.heap.size ≤ k) := by
      rcases hat with e | e
      · exact .inl e.symm
      · exact .inr ⟨g, rfl, by have := hzS.size; omega⟩
    have hh1' : Blk (w2.setCell ⟨B, 5, none⟩ (.slice (some ⟨g, 0, none⟩) (s.out.length + D.length) cap)) B 77 [.int .i64 s.bias, .bool (!s.first), .int .i64 s.n, .int .i64 s.i, .int .i64 s.m, .slice (some ⟨g, 0, none⟩) (s.out.length + D.length) cap] := hh1
    clear hown' hgrow hat hlt' cW2 fW2 hh1 hbel c51 hO1 hB1 hownD hbS c50 c50' hz hzS
    generalize w2.setCell ⟨B, 5, none⟩ (.slice (some ⟨g, 0, none⟩) (s.out.length + D.length) cap) = w3 at *
    have hB3 := hh1'.lt
    have HGO := Hid.mk' (goOn_any B 77 _ _ s.n s.i s.m _ d w3 hh1' ⟨by omega, n1⟩ ⟨i0', by omega⟩ ⟨by omega, by omega⟩ ⟨hd0, hd1⟩)
    rw [← HQ.out.1, ← HQ.out.2] at HGO
    have H2 := Hid.mk' hh2
    have H3 := Hid.mk' hb3
    clear hh1' hh2 hb3 HDG HSS HST
    go_wp2_with fail
    refine HGO.out.mono ?_
    rintro e w4 ⟨rfl, hk4, ho4⟩
    have HFI := Hid.mk' (fill_any B 77 _ _ r a s.m _ w4 hk4 ⟨ha, by omega⟩ ⟨by omega, by omega⟩)
    clear hk4
    go_wp2_with fail
    refine HFI.out.mono ?_
    rintro e w5 ⟨rfl, hk5, ho5⟩
    have HAD := Hid.mk' (adapt_any B 77 s.bias (!s.first) _ d (s.m + 1) w5.drew hk5.drew ⟨hd0, hd1⟩ ⟨by omega, by omega⟩)
    have c4 : w5.drew.cell? ⟨B, 4, none⟩ = some (.int .i64 (s.m + 1)) := hk5.cell 4 rfl
    have c4' : w5.cell? ⟨B, 4, none⟩ = some (.int .i64 (s.m + 1)) := hk5.cell 4 rfl
    have H5 := Hid.mk' (ho4.trans ho5).drew
    clear hk5 ho4 ho5
    go_wp2
    go_region_law (go_simp; go_at_call 105; refine HAD.out.mono ?_; rintro e w6 ⟨rfl, hk6, ho6⟩)
    go_wp2
    go_end0
    have ho := H5.out.trans ho6
    refine ⟨rfl, ⟨.slice (some ⟨g, 0, none⟩) (s.out.length + D.length) cap, ⟨?_, ?_⟩, HOB.out⟩, ⟨Nat.le_trans HK3.out.1 ho.size, fun k hk hkB hkv => ?_⟩, H3.out.trans (ho.below (by omega))⟩
    · rw [HPE.out]
      rw [Bool.not_not] at hk6
      exact hk6
    · rw [HPE.out]
      have := owns_on H2.out ho (Nat.lt_succ_self B)
      simpa using this
    · exact (ho.block k (Nat.lt_of_lt_of_le hk HK3.out.1) (fun e => hkB (Option.some.inj e))).trans (HK3.out.2 k hk hkB hkv)
end Go.Proofs.YtockmkcoehepiaaDoor

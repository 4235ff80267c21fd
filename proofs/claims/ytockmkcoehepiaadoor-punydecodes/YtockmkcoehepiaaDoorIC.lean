/-
  What is proved here: that slices.Insert of a rune into a slice that has no room, and so at any place, answers as it should.
-/
import Derived.Test.YtockmkcoehepiaaDoorIB
namespace Go.Proofs.YtockmkcoehepiaaDoor
open Go.RowKit Go.Shelf Go.Lib

/-- the new row behind the two copies -/
theorem row_grow (cs vs Z Z2 : List Value) (i n G : Nat) (hi : i < n) (hG : n + 1 ≤ G) (hcl : cs.length = n) (hz : Z.length = (n + 1 - i)) (hz2 : Z2.length = (G - (n + 1))) (hv : vs.length = 1) :
    ((cs.take (i) ++ Z ++ Z2).take (i) ++ vs ++ (cs.take (i) ++ Z ++ Z2).drop (i + vs.length)).length = G ∧
    ∀ L2, L2 = ((cs.take (i) ++ Z ++ Z2).take (i) ++ vs ++ (cs.take (i) ++ Z ++ Z2).drop (i + vs.length)) →
      (L2.take ((i + 1)) ++ cs.drop (i) ++ L2.drop ((i + 1) + (cs.drop (i)).length)).take ((n + 1)) = cs.take (i) ++ vs ++ cs.drop (i)
      ∧ (L2.take ((i + 1)) ++ cs.drop (i) ++ L2.drop ((i + 1) + (cs.drop (i)).length)).length = G := by
  have hdl : (cs.drop (i)).length = (n - i) := by rw [List.length_drop]; omega
  have htl : (cs.take (i)).length = i := by rw [List.length_take]; omega
  have hlen : ((cs.take (i) ++ Z ++ Z2).take (i) ++ vs ++ (cs.take (i) ++ Z ++ Z2).drop (i + vs.length)).length = G := by
    simp only [List.length_append, List.length_take, List.length_drop]; omega
  refine ⟨hlen, ?_⟩
  rintro L2 rfl
  have e1 : (cs.take (i) ++ Z ++ Z2).take (i) = cs.take (i) := by
    rw [List.append_assoc, List.take_append_of_le_length (by omega), List.take_take]; congr 1; omega
  have e2 : ((cs.take (i) ++ Z ++ Z2).take (i) ++ vs ++ (cs.take (i) ++ Z ++ Z2).drop (i + vs.length)).take ((i + 1)) = cs.take (i) ++ vs := by
    rw [e1]
    have h3 : (i + 1) = (cs.take (i) ++ vs).length := by simp only [List.length_append]; omega
    rw [h3, List.take_left]
  refine ⟨?_, ?_⟩
  · rw [e2]
    have h4 : (n + 1) = (cs.take (i) ++ vs ++ cs.drop (i)).length := by simp only [List.length_append]; omega
    rw [h4, List.take_left]
  · rw [e2]
    simp only [List.length_append, List.length_drop, List.length_take] at hlen ⊢
    omega
theorem zeros_len (k : Nat) : (Builtin.zeroCells (Value.int .i32 0).cells k).size = k := by simp [Builtin.zeroCells, Value.cells]
set_option maxRecDepth 100000 in
set_option maxHeartbeats 4000000 in
theorem insert_grow (B : Nat) (t : List Int) (i : Nat) (r : Int) (w : World) (g nb : Nat) (hi : i < t.length) (ht : t.length ≤ 2000) (hB : B ≤ w.heap.size)
    (hown : w.ownsRow B 21 1 (.slice (some ⟨g, 0, none⟩) t.length t.length) t.length (cellsOf t))
    (hnb : w.heap[nb]? = some (.cells #[.int .i32 r] 21 (0, 0))) :
    Calls Tryd.prog 109 #[.slice (some ⟨g, 0, none⟩) t.length t.length, .int .i64 i, .slice (some ⟨nb, 0, none⟩) 1 1] w fun e w' => ∃ v', e = .returned v' ∧ w'.ownsRow B 21 1 v' (t.length + 1) (cellsOf (insAt t i r)) ∧ Below B w w' := by
  have hgl := (hown.lt g rfl).2
  have hnl := lt_of_block3 hnb
  have hcells : ∀ j v, (cellsOf t)[j]? = some v → w.cell? ⟨g, j, none⟩ = some v := fun j v hj => by
    have hjl : j < (cellsOf t).length := by
      rcases Nat.lt_or_ge j (cellsOf t).length with h | h
      · exact h
      · rw [List.getElem?_eq_none h] at hj; cases hj
    rw [cellsOf_len] at hjl
    rw [hown.cellAt j (by omega)]; exact hj
  have hcl := cellsOf_len t
  have hdl : ((cellsOf t).drop (i)).length = (t.length - i) := by rw [List.length_drop]; omega
  have hsz : (Tryd.prog.info? 21).map (·.size) = some 1 := by
    obtain ⟨i0, hi0, h0, h1, h2⟩ := info_parts Tryd.infoRune
    rw [hi0]; simp [h1]
  obtain ⟨i0, hi0, hz0, hzs, hzb⟩ := info_parts Tryd.infoRune
  obtain ⟨vs, hvs⟩ : ∃ vs : List Value, vs = [.int .i32 r] := ⟨_, rfl⟩
  have hv1 : ∀ v ∈ vs, v.oneCell' = true := by rw [hvs]; intro u hu; simp at hu; subst hu; rfl
  have hvl : vs.length = 1 := by rw [hvs]; rfl
  obtain ⟨G, hG⟩ : ∃ G, G = grownCap w (t.length + 1) t.length 21 := ⟨_, rfl⟩
  have hGn : t.length + 1 ≤ G := by rw [hG]; exact grownCap_ge w _ _ _
  have hGm : G ≤ maxLen := by rw [hG]; exact grownCap_le_maxLen w _ _ _ (by unfold maxLen; omega)
  obtain ⟨R0, hR0⟩ : ∃ R0 : Array Value, R0 = ((cellsOf t).take (i)).toArray ++ Builtin.zeroCells (Value.int .i32 0).cells (t.length + 1 - i) ++ Builtin.zeroCells (Value.int .i32 0).cells (G - (t.length + 1)) := ⟨_, rfl⟩
  have hik : i + (t.length + 1 - i) = t.length + 1 := by omega
  have hold : (Builtin.firstCells i0.size i (.slice (some ⟨g, 0, none⟩) i t.length)).run Tryd.prog w.drew = .ok ((cellsOf t).take (i)).toArray w.drew := by
    rw [hzs]
    exact run_firstCells_some w.drew 1 i ⟨g, 0, none⟩ i t.length ((cellsOf t).take (i)) (by rw [List.length_take]; omega) (fun j v hj => by
      rw [Addr.add_lit, Nat.zero_add]
      rw [List.getElem?_take] at hj
      split at hj
      · exact hcells j v hj
      · cases hj)
  have hrz : ∀ ty, (Builtin.append_ #[24, 3] ty #[.slice (some ⟨g, 0, none⟩) i t.length, .int .i64 ((t.length : Int) + 1 - (i : Int))]).run Tryd.prog w =
      .ok (.slice (some ⟨w.heap.size, 0, none⟩) (t.length + 1) G) (w.drew.alloc (.cells R0 21)) := fun ty => by
    have h := Lib.run_append_grow_zeros w 24 3 ty 21 i0 _ .i64 .i64 Tryd.underlying24 Tryd.underlying3 hi0 hz0 (some ⟨g, 0, none⟩) i t.length ((cellsOf t).take (i)) hold (t.length + 1 - i) (by omega) (by omega) (by omega) (by omega) (by rw [hzb]; omega) (by rw [hzb, hik]; exact growslice_fits (by omega) (by omega))
    rw [hik, ← hG, ← hR0] at h
    rw [show (t.length : Int) + 1 - (i : Int) = ((t.length + 1 - i : Nat) : Int) by omega]
    exact h
  obtain ⟨R1, hR1⟩ : ∃ R1 : Array Value, R1 = (R0.toList.take (i) ++ vs ++ R0.toList.drop (i + vs.length)).toArray := ⟨_, rfl⟩
  obtain ⟨R2, hR2⟩ : ∃ R2 : Array Value, R2 = (R1.toList.take ((i + 1)) ++ (cellsOf t).drop (i) ++ R1.toList.drop ((i + 1) + ((cellsOf t).drop (i)).length)).toArray := ⟨_, rfl⟩
  have e0 : R0.toList = (cellsOf t).take (i) ++ (Builtin.zeroCells (Value.int .i32 0).cells (t.length + 1 - i)).toList ++ (Builtin.zeroCells (Value.int .i32 0).cells (G - (t.length + 1))).toList := by rw [hR0]; simp
  have hrow := row_grow (cellsOf t) vs _ _ i t.length G hi hGn hcl (show (Builtin.zeroCells (Value.int .i32 0).cells (t.length + 1 - i)).toList.length = _ by rw [Array.length_toList, zeros_len]) (show (Builtin.zeroCells (Value.int .i32 0).cells (G - (t.length + 1))).toList.length = _ by rw [Array.length_toList, zeros_len]) hvl
  rw [← e0] at hrow
  have e1 : R1.toList = R0.toList.take (i) ++ vs ++ R0.toList.drop (i + vs.length) := by rw [hR1]
  obtain ⟨hl1, hrow2⟩ := hrow
  obtain ⟨hr1, hr2⟩ := hrow2 R1.toList e1
  have hR0s : R0.size = G := by rw [hR0]; simp only [Array.size_append, List.size_toArray, List.length_take, zeros_len]; omega
  have hR1s : R1.size = G := by rw [← Array.length_toList, e1]; exact hl1
  have hcpA : ∀ ty dc, (Builtin.copy_ #[24, 24] ty #[.slice (some ⟨w.heap.size, i, none⟩) (t.length + 1 - i) dc, .slice (some ⟨nb, 0, none⟩) 1 1]).run Tryd.prog ((w.alloc (.cells R0 21)).drew) = .ok (goInt 1) (((w.alloc (.cells R0 21)).drew).setRow w.heap.size R1) := fun ty dc => by
    rw [hR1]
    exact run_copyK _ _ _ ty 21 w.heap.size (i) (t.length + 1 - i) dc ⟨nb, 0, none⟩ 1 1 R0 21 vs 1 1 Tryd.underlying24 hsz (Array.getElem?_push_size) (by simp only [Nat.min_def]; split <;> omega) hvl (by rw [hvs]; exact news_one (w := (w.alloc (.cells R0 21)).drew) ((Below.heap_alloc w _ nb hnl).trans hnb)) (by omega) hv1
  have hcpB : ∀ ty dc sc, (Builtin.copy_ #[24, 24] ty #[.slice (some ⟨w.heap.size, (i + 1), none⟩) (t.length + 1 - (i + 1)) dc, .slice (some ⟨g, i, none⟩) (t.length - i) sc]).run Tryd.prog ((((w.alloc (.cells R0 21)).drew).setRow w.heap.size R1).drew) = .ok (goInt ((t.length - i : Nat) : Int)) (((((w.alloc (.cells R0 21)).drew).setRow w.heap.size R1).drew).setRow w.heap.size R2) := fun ty dc sc => by
    rw [hR2]
    refine run_copyK _ _ _ ty 21 w.heap.size ((i + 1)) (t.length + 1 - (i + 1)) dc ⟨g, i, none⟩ (t.length - i) sc R1 21 ((cellsOf t).drop (i)) 1 (t.length - i) Tryd.underlying24 hsz (setRow_heap _ _ _ _ _ _ (Array.getElem?_push_size)) (by simp only [Nat.min_def]; split <;> omega) hdl (fun j v hj => ?_) (by omega) (fun v hv => cellsOf_one t v (List.mem_of_mem_drop hv))
    rw [Addr.add_lit]
    rw [List.getElem?_drop] at hj
    have hc := hcells _ _ hj
    refine (World.cell?_of_block (w := w) ?_).trans hc
    exact (setRow_other (w := (w.alloc (.cells R0 21)).drew) (Nat.ne_of_lt hgl) _).trans (Below.heap_alloc w _ g hgl)
  have HO : Hid ((((((w.alloc (.cells R0 21)).drew).setRow w.heap.size R1).drew).setRow w.heap.size R2).ownsRow B 21 1 (.slice (some ⟨w.heap.size, 0, none⟩) (t.length + 1) G) (t.length + 1) (cellsOf (insAt t i r)) ∧ Below B w (((((w.alloc (.cells R0 21)).drew).setRow w.heap.size R1).drew).setRow w.heap.size R2)) := by
    have h9 : (((w.alloc (.cells R0 21)).drew).setRow w.heap.size R1).heap[w.heap.size]? = some (.cells R1 21 (0, 0)) := setRow_heap _ _ _ _ _ _ (Array.getElem?_push_size)
    have e2 : R2.toList = R1.toList.take ((i + 1)) ++ (cellsOf t).drop (i) ++ R1.toList.drop ((i + 1) + ((cellsOf t).drop (i)).length) := by rw [hR2]
    refine ⟨⟨by rw [cellsOf_len, insAt_len t i r (by omega), Nat.mul_one], .inr ⟨w.heap.size, G, R2, rfl, hB, setRow_heap _ _ _ _ _ _ h9, hGn, hGm, ?_, ?_⟩⟩, ?_⟩
    · rw [Nat.mul_one, ← Array.length_toList, e2]; exact hr2
    · rw [Nat.mul_one, e2, hr1, cellsOf_ins, hvs]
    · exact (((((Below.refl B w).alloc hB _).drew).trans (below_setRow hB R1)).drew).trans (below_setRow hB R2)
  have hG63 : G ≤ 9223372036854775807 := by unfold maxLen at hGm; omega
  have hGi : ¬ (G = i) := by omega
  have hGim : ¬ (G = i + 1) := by omega
  have hz2 : ¬ ((i : Int) = (t.length : Int)) := by omega
  have hw1 : IntKind.i64.wrap ((i : Int) + 1) = (i : Int) + 1 := by rw [IntKind.wrap_i64]; omega
  have hb1 : (0 : Int) ≤ (i : Int) + 1 := by omega
  have hin : i ≤ t.length := by omega
  have htn : ((i : Int) + 1).toNat = i + 1 := by omega
  have hb3 : (i : Int) ≤ (t.length : Int) := by omega
  have hb4 : ¬ (t.length = i) := by omega
  have hq : ((i : Int) == (t.length : Int)) = false := by simp; omega
  have hz3 : (t.length : Int) < (t.length : Int) + 1 := by omega
  generalize t.length = n at *
  have mixed : Tryd.prog.follows Departure.mixedOrders = true := by kernel_rfl
  clear hrow2 hr1 hr2 hl1 e0 e1 hR0s hR1s hcells hold hik hdl hcl hown hnb hvs hv1 hvl hR1 hR2 hR0 hG hi0 hz0 hzs hzb hsz hGm
  go_enter Tryd.func109, Tryd.ntmps109
  go_wp2_with (first
    | (at_builtin; refine Lib.wpList_append_run _ rfl _ _ _ _ rfl _ _ rfl rfl _ _ (hrz _) ?_)
    | (at_builtin; refine wpList_copy_runI _ rfl _ _ 24 24 rfl _ _ rfl rfl (hcpA _ _) ?_))
  go_region_law_o (refine step_copy_runI rfl _ _ 24 24 rfl (.slice (some ⟨w.heap.size, (i + 1), none⟩) (n + 1 - (i + 1)) (G - (i + 1))) (.slice (some ⟨g, i, none⟩) (n - i) (n - i)) (by simp [Act.eval, Act.put]) (by simp [Act.eval, Act.put]) (hcpB _ _ _) ?_)
  go_wp2
  go_ret
  exact ⟨_, rfl, HO.out⟩
/-- slices.Insert of one rune, at any place -/
theorem insert_any (B : Nat) (t : List Int) (i : Nat) (r : Int) (w : World) (v : Value) (nb : Nat) (hi : i ≤ t.length) (ht : t.length ≤ 2000) (hB : B ≤ w.heap.size) (hown : w.ownsRow B 21 1 v t.length (cellsOf t)) (hne : v.ownBlock ≠ some nb)
    (hnb : w.heap[nb]? = some (.cells #[.int .i32 r] 21 (0, 0))) :
    Calls Tryd.prog 109 #[v, .int .i64 i, .slice (some ⟨nb, 0, none⟩) 1 1] w fun e w' => ∃ v', e = .returned v' ∧ w'.ownsRow B 21 1 v' (t.length + 1) (cellsOf (insAt t i r)) ∧ Below B w w' := by
  rcases Nat.lt_or_ge i t.length with h | h
  · rcases hown.2 with ⟨_, h0⟩ | ⟨g, c, cur, rfl, _, _, hnc, _⟩
    · omega
    · rcases Nat.lt_or_ge t.length c with hc | hc
      · exact insert_shift B t i r w g c nb h ht hc hown (fun e => hne (by rw [e]; rfl)) hnb
      · obtain rfl : c = t.length := by omega
        exact insert_grow B t i r w g nb h ht hB hown hnb
  · obtain rfl : i = t.length := by omega
    exact insert_end B t r w v nb ht hB hown hnb
end Go.Proofs.YtockmkcoehepiaaDoor

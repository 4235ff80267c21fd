/-
  What is proved here: that slices.Insert of a range into a slice that has no room, and so at any place, answers as it should.
-/
import Derived.Test.YthheplgpjhhbmaaDoorI2
namespace Go.Proofs.YthheplgpjhhbmaaDoor
open Go.RowKit Go.Shelf Go.Lib

/-- the new row behind the two copies -/
theorem row_grow (cs vs Z Z2 : List Value) (i n G : Nat) (hi : i < n) (hG : n + 1 ≤ G) (hcl : cs.length = n * 3) (hz : Z.length = (n + 1 - i) * 3) (hz2 : Z2.length = (G - (n + 1)) * 3) (hv : vs.length = 3) :
    ((cs.take (i * 3) ++ Z ++ Z2).take (i * 3) ++ vs ++ (cs.take (i * 3) ++ Z ++ Z2).drop (i * 3 + vs.length)).length = G * 3 ∧
    ∀ L2, L2 = ((cs.take (i * 3) ++ Z ++ Z2).take (i * 3) ++ vs ++ (cs.take (i * 3) ++ Z ++ Z2).drop (i * 3 + vs.length)) →
      (L2.take ((i + 1) * 3) ++ cs.drop (i * 3) ++ L2.drop ((i + 1) * 3 + (cs.drop (i * 3)).length)).take ((n + 1) * 3) = cs.take (i * 3) ++ vs ++ cs.drop (i * 3)
      ∧ (L2.take ((i + 1) * 3) ++ cs.drop (i * 3) ++ L2.drop ((i + 1) * 3 + (cs.drop (i * 3)).length)).length = G * 3 := by
  have hdl : (cs.drop (i * 3)).length = (n - i) * 3 := by rw [List.length_drop, hcl]; omega
  have htl : (cs.take (i * 3)).length = i * 3 := by rw [List.length_take, hcl]; omega
  have hlen : ((cs.take (i * 3) ++ Z ++ Z2).take (i * 3) ++ vs ++ (cs.take (i * 3) ++ Z ++ Z2).drop (i * 3 + vs.length)).length = G * 3 := by
    simp only [List.length_append, List.length_take, List.length_drop]; omega
  refine ⟨hlen, ?_⟩
  rintro L2 rfl
  have e1 : (cs.take (i * 3) ++ Z ++ Z2).take (i * 3) = cs.take (i * 3) := by
    rw [List.append_assoc, List.take_append_of_le_length (by omega), List.take_take]; congr 1; omega
  have e2 : ((cs.take (i * 3) ++ Z ++ Z2).take (i * 3) ++ vs ++ (cs.take (i * 3) ++ Z ++ Z2).drop (i * 3 + vs.length)).take ((i + 1) * 3) = cs.take (i * 3) ++ vs := by
    rw [e1]
    have h3 : (i + 1) * 3 = (cs.take (i * 3) ++ vs).length := by simp only [List.length_append]; omega
    rw [h3, List.take_left]
  refine ⟨?_, ?_⟩
  · rw [e2]
    have h4 : (n + 1) * 3 = (cs.take (i * 3) ++ vs ++ cs.drop (i * 3)).length := by simp only [List.length_append]; omega
    rw [h4, List.take_left]
  · rw [e2]
    simp only [List.length_append, List.length_drop, List.length_take] at hlen ⊢
    omega
theorem zeros_len (k : Nat) : (Builtin.zeroCells (Value.agg #[.int .i32 0, .int .i32 0, .int .i64 0]).cells k).size = k * 3 := by simp [Builtin.zeroCells, Value.cells]
set_option maxRecDepth 100000 in
set_option maxHeartbeats 4000000 in
theorem insert_grow (B : Nat) (t : List Rg) (i : Nat) (r : Rg) (w : World) (g nb : Nat) (hi : i < t.length) (ht : t.length ≤ 2000) (hB : B ≤ w.heap.size)
    (hown : w.ownsRow B 37 3 (.slice (some ⟨g, 0, none⟩) t.length t.length) t.length (cellsOf t))
    (hnb : w.heap[nb]? = some (.cells #[.int .i32 r.lo, .int .i32 r.hi, .int .i64 r.val] 37 (0, 0))) :
    Calls Tryd.prog 26 #[.slice (some ⟨g, 0, none⟩) t.length t.length, .int .i64 i, .slice (some ⟨nb, 0, none⟩) 1 1] w fun e w' => ∃ v', e = .returned v' ∧ w'.ownsRow B 37 3 v' (t.length + 1) (cellsOf (insAt t i r)) ∧ Below B w w' := by
  have hgl := (hown.lt g rfl).2
  have hnl := lt_of_block3 hnb
  have hcells : ∀ j v, (cellsOf t)[j]? = some v → w.cell? ⟨g, j, none⟩ = some v := fun j v hj => by
    have hjl : j < (cellsOf t).length := by
      rcases Nat.lt_or_ge j (cellsOf t).length with h | h
      · exact h
      · rw [List.getElem?_eq_none h] at hj; cases hj
    rw [cellsOf_len] at hjl
    rw [hown.cellAt j hjl]; exact hj
  have hcl := cellsOf_len t
  have hdl : ((cellsOf t).drop (i * 3)).length = (t.length - i) * 3 := by rw [List.length_drop, hcl]; omega
  have hsz : (Tryd.prog.info? 37).map (·.size) = some 3 := by
    obtain ⟨i0, hi0, h0, h1, h2⟩ := info_parts Tryd.infoRange
    rw [hi0]; simp [h1]
  obtain ⟨i0, hi0, hz0, hzs, hzb⟩ := info_parts Tryd.infoRange
  obtain ⟨vs, hvs⟩ : ∃ vs : List Value, vs = [.int .i32 r.lo, .int .i32 r.hi, .int .i64 r.val] := ⟨_, rfl⟩
  have hv1 : ∀ v ∈ vs, v.oneCell' = true := by rw [hvs]; intro u hu; simp at hu; rcases hu with rfl | rfl | rfl <;> rfl
  have hvl : vs.length = 3 := by rw [hvs]; rfl
  obtain ⟨G, hG⟩ : ∃ G, G = grownCap w (t.length + 1) t.length 37 := ⟨_, rfl⟩
  have hGn : t.length + 1 ≤ G := by rw [hG]; exact grownCap_ge w _ _ _
  have hGm : G ≤ maxLen := by rw [hG]; exact grownCap_le_maxLen w _ _ _ (by unfold maxLen; omega)
  obtain ⟨R0, hR0⟩ : ∃ R0 : Array Value, R0 = ((cellsOf t).take (i * 3)).toArray ++ Builtin.zeroCells (Value.agg #[.int .i32 0, .int .i32 0, .int .i64 0]).cells (t.length + 1 - i) ++ Builtin.zeroCells (Value.agg #[.int .i32 0, .int .i32 0, .int .i64 0]).cells (G - (t.length + 1)) := ⟨_, rfl⟩
  have hik : i + (t.length + 1 - i) = t.length + 1 := by omega
  have hold : (Builtin.firstCells i0.size i (.slice (some ⟨g, 0, none⟩) i t.length)).run Tryd.prog w.drew = .ok ((cellsOf t).take (i * 3)).toArray w.drew := by
    rw [hzs]
    exact run_firstCells_some w.drew 3 i ⟨g, 0, none⟩ i t.length ((cellsOf t).take (i * 3)) (by rw [List.length_take]; omega) (fun j v hj => by
      rw [Addr.add_lit, Nat.zero_add]
      rw [List.getElem?_take] at hj
      split at hj
      · exact hcells j v hj
      · cases hj)
  have hrz : ∀ ty, (Builtin.append_ #[22, 3] ty #[.slice (some ⟨g, 0, none⟩) i t.length, .int .i64 ((t.length : Int) + 1 - (i : Int))]).run Tryd.prog w =
      .ok (.slice (some ⟨w.heap.size, 0, none⟩) (t.length + 1) G) (w.drew.alloc (.cells R0 37)) := fun ty => by
    have h := Lib.run_append_grow_zeros w 22 3 ty 37 i0 _ .i64 .i64 Tryd.underlying22 Tryd.underlying3 hi0 hz0 (some ⟨g, 0, none⟩) i t.length ((cellsOf t).take (i * 3)) hold (t.length + 1 - i) (by omega) (by omega) (by omega) (by omega) (by rw [hzb]; omega) (by rw [hzb, hik]; exact growslice_fits (by omega) (by omega))
    rw [hik, ← hG, ← hR0] at h
    rw [show (t.length : Int) + 1 - (i : Int) = ((t.length + 1 - i : Nat) : Int) by omega]
    exact h
  obtain ⟨R1, hR1⟩ : ∃ R1 : Array Value, R1 = (R0.toList.take (i * 3) ++ vs ++ R0.toList.drop (i * 3 + vs.length)).toArray := ⟨_, rfl⟩
  obtain ⟨R2, hR2⟩ : ∃ R2 : Array Value, R2 = (R1.toList.take ((i + 1) * 3) ++ (cellsOf t).drop (i * 3) ++ R1.toList.drop ((i + 1) * 3 + ((cellsOf t).drop (i * 3)).length)).toArray := ⟨_, rfl⟩
  have e0 : R0.toList = (cellsOf t).take (i * 3) ++ (Builtin.zeroCells (Value.agg #[.int .i32 0, .int .i32 0, .int .i64 0]).cells (t.length + 1 - i)).toList ++ (Builtin.zeroCells (Value.agg #[.int .i32 0, .int .i32 0, .int .i64 0]).cells (G - (t.length + 1))).toList := by rw [hR0]; simp
  have hrow := row_grow (cellsOf t) vs _ _ i t.length G hi hGn hcl (show (Builtin.zeroCells (Value.agg #[.int .i32 0, .int .i32 0, .int .i64 0]).cells (t.length + 1 - i)).toList.length = _ by rw [Array.length_toList, zeros_len]) (show (Builtin.zeroCells (Value.agg #[.int .i32 0, .int .i32 0, .int .i64 0]).cells (G - (t.length + 1))).toList.length = _ by rw [Array.length_toList, zeros_len]) hvl
  rw [← e0] at hrow
  have e1 : R1.toList = R0.toList.take (i * 3) ++ vs ++ R0.toList.drop (i * 3 + vs.length) := by rw [hR1]
  obtain ⟨hl1, hrow2⟩ := hrow
  obtain ⟨hr1, hr2⟩ := hrow2 R1.toList e1
  have hR0s : R0.size = G * 3 := by rw [hR0]; simp only [Array.size_append, List.size_toArray, List.length_take, zeros_len]; omega
  have hR1s : R1.size = G * 3 := by rw [← Array.length_toList, e1]; exact hl1
  have hcpA : ∀ ty dc, (Builtin.copy_ #[22, 22] ty #[.slice (some ⟨w.heap.size, i * 3, none⟩) (t.length + 1 - i) dc, .slice (some ⟨nb, 0, none⟩) 1 1]).run Tryd.prog ((w.alloc (.cells R0 37)).drew) = .ok (goInt 1) (((w.alloc (.cells R0 37)).drew).setRow w.heap.size R1) := fun ty dc => by
    rw [hR1]
    exact run_copyK _ _ _ ty 37 w.heap.size (i * 3) (t.length + 1 - i) dc ⟨nb, 0, none⟩ 1 1 R0 37 vs 3 1 Tryd.underlying22 hsz (Array.getElem?_push_size) (by simp only [Nat.min_def]; split <;> omega) hvl (by rw [hvs]; exact news_one (w := (w.alloc (.cells R0 37)).drew) ((Below.heap_alloc w _ nb hnl).trans hnb)) (by omega) hv1
  have hcpB : ∀ ty dc sc, (Builtin.copy_ #[22, 22] ty #[.slice (some ⟨w.heap.size, (i + 1) * 3, none⟩) (t.length + 1 - (i + 1)) dc, .slice (some ⟨g, i * 3, none⟩) (t.length - i) sc]).run Tryd.prog ((((w.alloc (.cells R0 37)).drew).setRow w.heap.size R1).drew) = .ok (goInt ((t.length - i : Nat) : Int)) (((((w.alloc (.cells R0 37)).drew).setRow w.heap.size R1).drew).setRow w.heap.size R2) := fun ty dc sc => by
    rw [hR2]
    refine run_copyK _ _ _ ty 37 w.heap.size ((i + 1) * 3) (t.length + 1 - (i + 1)) dc ⟨g, i * 3, none⟩ (t.length - i) sc R1 37 ((cellsOf t).drop (i * 3)) 3 (t.length - i) Tryd.underlying22 hsz (setRow_heap _ _ _ _ _ _ (Array.getElem?_push_size)) (by simp only [Nat.min_def]; split <;> omega) hdl (fun j v hj => ?_) (by omega) (fun v hv => cellsOf_one t v (List.mem_of_mem_drop hv))
    rw [Addr.add_lit]
    rw [List.getElem?_drop] at hj
    have hc := hcells _ _ hj
    refine (World.cell?_of_block (w := w) ?_).trans hc
    exact (setRow_other (w := (w.alloc (.cells R0 37)).drew) (Nat.ne_of_lt hgl) _).trans (Below.heap_alloc w _ g hgl)
  have HO : Hid ((((((w.alloc (.cells R0 37)).drew).setRow w.heap.size R1).drew).setRow w.heap.size R2).ownsRow B 37 3 (.slice (some ⟨w.heap.size, 0, none⟩) (t.length + 1) G) (t.length + 1) (cellsOf (insAt t i r)) ∧ Below B w (((((w.alloc (.cells R0 37)).drew).setRow w.heap.size R1).drew).setRow w.heap.size R2)) := by
    have h9 : (((w.alloc (.cells R0 37)).drew).setRow w.heap.size R1).heap[w.heap.size]? = some (.cells R1 37 (0, 0)) := setRow_heap _ _ _ _ _ _ (Array.getElem?_push_size)
    have e2 : R2.toList = R1.toList.take ((i + 1) * 3) ++ (cellsOf t).drop (i * 3) ++ R1.toList.drop ((i + 1) * 3 + ((cellsOf t).drop (i * 3)).length) := by rw [hR2]
    refine ⟨⟨by rw [cellsOf_len, insAt_len t i r (by omega)], .inr ⟨w.heap.size, G, R2, rfl, hB, setRow_heap _ _ _ _ _ _ h9, hGn, hGm, ?_, ?_⟩⟩, ?_⟩
    · rw [← Array.length_toList, e2]; exact hr2
    · rw [e2, hr1, cellsOf_ins, hvs]; rfl
    · exact (((((Below.refl B w).alloc hB _).drew).trans (below_setRow hB R1)).drew).trans (below_setRow hB R2)
  have hG63 : G ≤ 9223372036854775807 := by unfold maxLen at hGm; omega
  have hGi : ¬ (G = i) := by omega
  have hGim : ¬ (G = i + 1) := by omega
  have hz2 : ¬ ((i : Int) = (t.length : Int)) := by omega
  have hw1 : IntKind.i64.wrap ((i : Int) + 1) = (i : Int) + 1 := by rw [IntKind.wrap_i64]; omega
  have hb1 : (0 : Int) ≤ (i : Int) + 1 := by omega
  have hin : i ≤ t.length := by omega
  have htn : ((i : Int) + 1).toNat = i + 1 := by omega
  have hb3 : (i : Int) ≤ (t.length : Int) := by omega
  have hb4 : ¬ (t.length = i) := by omega
  have hq : ((i : Int) == (t.length : Int)) = false := by simp; omega
  have hz3 : (t.length : Int) < (t.length : Int) + 1 := by omega
  generalize t.length = n at *
  have mixed : Tryd.prog.follows Departure.mixedOrders = true := by kernel_rfl
  clear hrow2 hr1 hr2 hl1 e0 e1 hR0s hR1s hcells hold hik hdl hcl hown hnb hvs hv1 hvl hR1 hR2 hR0 hG hi0 hz0 hzs hzb hsz hGm
  go_enter Tryd.func26, Tryd.ntmps26
  go_wp2_with (first
    | (at_builtin; refine Lib.wpList_append_run _ rfl _ _ _ _ rfl _ _ rfl rfl _ _ (hrz _) ?_)
    | (at_builtin; refine wpList_copy_runI _ rfl _ _ 22 22 rfl _ _ rfl rfl (hcpA _ _) ?_))
  go_region_law_o (refine step_copy_runI rfl _ _ 22 22 rfl (.slice (some ⟨w.heap.size, (i + 1) * 3, none⟩) (n + 1 - (i + 1)) (G - (i + 1))) (.slice (some ⟨g, i * 3, none⟩) (n - i) (n - i)) (by simp [Act.eval, Act.put]) (by simp [Act.eval, Act.put]) (hcpB _ _ _) ?_)
  go_wp2
  go_ret
  exact ⟨_, rfl, HO.out⟩
/-- slices.Insert of one range, at any place -/
theorem insert_any : InsOk (fun _ _ => True) := by
  intro B t i r w v nb hi ht _ hB hown hne hnb
  rcases Nat.lt_or_ge i t.length with h | h
  · rcases hown.2 with ⟨_, h0⟩ | ⟨g, c, cur, rfl, _, _, hnc, _⟩
    · omega
    · rcases Nat.lt_or_ge t.length c with hc | hc
      · exact insert_shift B t i r w g c nb h ht hc hown (fun e => hne (by rw [e]; rfl)) hnb
      · obtain rfl : c = t.length := by omega
        exact insert_grow B t i r w g nb h ht hB hown hnb
  · exact insert_end B t i r w v nb hi ht (by omega) hB hown hne hnb
end Go.Proofs.YthheplgpjhhbmaaDoor

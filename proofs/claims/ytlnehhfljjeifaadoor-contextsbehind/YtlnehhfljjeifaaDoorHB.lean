/-
  What is proved here: slices.Sort at fewer than fifty runes of one's own sorts them.
-/
import Derived.Test.YtlnehhfljjeifaaDoorHA
import Derived.Test.YtlnehhfljjeifaaDoorA9
namespace Go.Proofs.YtlnehhfljjeifaaDoor
open Go.RowKit Go.Sort

theorem runeOne : OneCell (Value.int .i32) := by first | exact ⟨fun _ => rfl⟩ | exact fun _ => rfl | exact oneCell_int
theorem below_sortedA {w0 w w2 : World} {B g : Nat} {d' : Array Int} (hb : Go.RowKit.Below B w0 w) (hg : B ≤ g) (hgs : g < w.heap.size) (h : SA w g 0 d' w2) : Go.RowKit.Below B w0 w2 := by
  obtain ⟨m, os, rfl⟩ := h
  refine hb.trans ⟨rfl, rfl, rfl, by simp [sortWorld, grow, putRow, mapBlock, Sort.ahead], fun k hk => ?_⟩
  show ((w.heap.modify g (onCells (putCells (Value.int .i32) 0 d'))) ++ os)[k]? = w.heap[k]?
  rw [Array.getElem?_append_left (by simp; omega), Array.getElem?_modify, if_neg (by omega)]
theorem own_whole {w w2 : World} {B g n cap : Nat} {S : List Int} {d' : Array Int} (h : w.ownsRow B 21 1 (.slice (some ⟨g, 0, none⟩) n cap) n (S.map (Value.int .i32))) (hS : d'.size = n) (hw : SA w g 0 d' w2) : w2.ownsRow B 21 1 (.slice (some ⟨g, 0, none⟩) n cap) n (d'.toList.map (Value.int .i32)) := by
  obtain ⟨m, os, rfl⟩ := hw
  obtain ⟨h1, h2⟩ := h
  refine ⟨by simpa using hS, ?_⟩
  rcases h2 with ⟨e0, -⟩ | ⟨g', cap', cur, e0, hb, hg, hn, hm, hs, ht⟩
  · cases e0
  · injection e0 with e1 _ e3
    injection e1 with e1
    injection e1 with e1
    subst e1 e3
    have hgl : g < w.heap.size := by
      rcases Nat.lt_or_ge g w.heap.size with q | q
      · exact q
      · rw [Array.getElem?_eq_none q] at hg; cases hg
    refine .inr ⟨g, cap, putCells (Value.int .i32) 0 d' cur, rfl, hb, ?_, hn, hm, by simpa [putCells] using hs, ?_⟩
    · show ((w.heap.modify g (onCells (putCells (Value.int .i32) 0 d'))) ++ os)[g]? = _
      rw [Array.getElem?_append_left (by simpa using hgl), Array.getElem?_modify, if_pos rfl, hg]
      rfl
    · have hl : n ≤ cur.size := by omega
      apply List.ext_getElem
      · simp [putCells]; omega
      · intro i i1 i2
        have hin : i < n := by simp at i1; omega
        simp only [List.getElem_take, Array.getElem_toList, putCells, Array.getElem_mapIdx, List.getElem_map]
        rw [if_pos ⟨by omega, by omega⟩]
        congr 1
        simp [hS, hin]
set_option maxHeartbeats 1000000 in
theorem insertion_nil (cap : Nat) (w : World) : Calls Tryd.prog 64 #[.slice none 0 cap, .int .i64 0, .int .i64 0] w fun e w' => e = .returned (.tuple #[]) ∧ w = w' := by
  go_enter Tryd.func64, Tryd.ntmps64
  go_wp2
  refine wp_loop_rounds 1 ?_
  rw [rounds_succ]
  go_wp2
  go_end0
  exact ⟨rfl, rfl⟩
set_option maxRecDepth 20000 in
set_option maxHeartbeats 1000000 in
theorem pdq_nil (cap : Nat) (l : Int) (w : World) : Calls Tryd.prog 53 #[.slice none 0 cap, .int .i64 0, .int .i64 0, .int .i64 l] w fun e w' => e = .returned (.tuple #[]) ∧ w = w' := by
  have HI := Hid.mk' (insertion_nil cap w)
  go_enter Tryd.func53, Tryd.ntmps53
  go_wp2
  refine wp_loop_rounds 1 ?_
  rw [rounds_succ]
  go_wp2_with (go_at_call 64; refine HI.out.mono ?_; rintro e w' ⟨rfl, rfl⟩)
  (try simp only [Exit.inBlock, Exit.then]); refine bodyPost_ret (results_none rfl _ _ _) rfl ?_
  exact ⟨rfl, rfl⟩
theorem bitsLen_any (n : Nat) (hn : n < 4611686018427387904) (w : World) : Calls Tryd.prog 54 #[.int .u64 n] w fun e w' => (∃ l : Int, e = .returned (.int .i64 l)) ∧ w = w' := by
  have h := Any.bits_Len (SlLaysF0.n15.bits (P := Tryd.prog) (ρ := Tryd.laysP47_ren) { Tryd.laysP47 with }) (n : Int) w (by omega) (by omega)
  exact h.mono fun _ _ ⟨h1, h2⟩ => ⟨⟨_, h1⟩, h2.symm⟩
set_option maxRecDepth 20000 in
set_option maxHeartbeats 1000000 in
/-- slices.Sort at fewer than fifty runes of one's own -/
theorem sorts_any (n B : Nat) (hn : n < 50) : SortsAt n B := by
  intro W v rs hl ho
  rcases id ho.2 with ⟨rfl, h0⟩ | ⟨g, cap, cur, rfl, hgB, hg, -, -, -, -⟩
  · obtain rfl : rs = [] := List.length_eq_zero_iff.1 h0
    have HL := Hid.mk' (bitsLen_any 0 (by omega) W)
    have HP := Hid.mk' (fun l => pdq_nil 0 l W)
    have HO := Hid.mk' ho
    clear ho hl
    go_enter Tryd.func35, Tryd.ntmps35
    go_wp2_with fail
    refine HL.out.mono ?_
    rintro e w' ⟨⟨l, rfl⟩, rfl⟩
    go_wp2_with fail
    refine (HP.out l).mono ?_
    rintro e w' ⟨rfl, rfl⟩
    go_wp2
    go_end0
    exact ⟨rfl, [], List.Perm.refl _, fun i j hij hj => by simp at hj, HO.out, fun w0 h => h⟩
  · have hgl : g < W.heap.size := by
      rcases Nat.lt_or_ge g W.heap.size with q | q
      · exact q
      · rw [Array.getElem?_eq_none q] at hg; cases hg
    have hrow : Holds (Value.int .i32) W g 0 rs.toArray := fun j hj => by
      have hj' : j < rs.length := by simpa using hj
      have h1 := ho.cellAt j (by omega)
      refine ⟨?_, ?_⟩
      · rw [Nat.zero_add, h1, List.getElem?_map, List.getElem?_eq_getElem hj']
        simp [hj']
      · rw [Nat.zero_add]; exact ho.frozenAt j
    have hR : RA W g 0 rs.toArray := ⟨runeOne, hrow, hgl⟩
    have HS : Hid (St W g 0 rs.length rs.toArray W) := ⟨by simp, SW.start hrow⟩
    have HL := Hid.mk' (bitsLen_any rs.length (by omega) W)
    have HP := Hid.mk' (fun l => pdq_any W g 0 cap rs.toArray hR rs.length (by simp) (by omega) 50 0 rs.length l rs.toArray W (by omega) (by omega) (Nat.le_refl _) (by omega) (.inl rfl) HS)
    have HO := Hid.mk' ho
    have HG := Hid.mk' hgl
    obtain ⟨z, hz⟩ : ∃ z, rs.length = z := ⟨_, rfl⟩
    have HZ := Hid.mk' hz
    rw [hz] at HL HP ⊢
    have hzb : z < 50 := by omega
    have wz : IntKind.u64.wrap (z : Int) = (z : Int) := by simp [IntKind.wrap, IntKind.bits, IntKind.signed]; omega
    clear ho hrow hR HS hgl hg hl hz
    go_enter Tryd.func35, Tryd.ntmps35
    go_wp2_with fail
    refine HL.out.mono ?_
    rintro e w' ⟨⟨l, rfl⟩, rfl⟩
    go_wp2_with fail
    refine (HP.out l).mono ?_
    rintro e w' ⟨rfl, d', hp, hs, hst⟩
    go_wp2
    go_end0
    have hsz := hst.out.len
    have e0 : (rs.toArray.extract 0 z).toList = rs := by rw [← HZ.out]; simp
    have e1 : (d'.extract 0 z).toList = d'.toList := by rw [← hsz]; simp
    refine ⟨rfl, d'.toList, ?_, fun i j hij hj => ?_, ?_, fun w0 h => below_sortedA h hgB HG.out hst.out.sa⟩
    · have := hp.out.2.2
      rwa [e0, e1] at this
    · have hj' : j < d'.size := by simpa using hj
      have hi' : i < d'.size := by omega
      rcases Nat.eq_or_lt_of_le hij with rfl | g
      · exact Int.le_refl _
      · have := hs.out i j (Nat.zero_le _) g (by omega)
        have : ¬ d'[j]! < d'[i]! := by simpa [ltInt] using this
        simp only [getElem!_pos, hj', hi', List.getD, Array.getElem?_toList, Array.getElem?_eq_getElem, Option.getD_some] at this ⊢
        omega
    · have h := own_whole (by rw [← HZ.out]; exact HO.out) hsz hst.out.sa
      exact h
end Go.Proofs.YtlnehhfljjeifaaDoor

/-
  What is proved here: that slices.Insert of a rune into a slice that has room answers as it should.
-/
import Derived.Test.YtockmkcoehepiaaDoorIA
namespace Go.Proofs.YtockmkcoehepiaaDoor
open Go.RowKit Go.Shelf Go.Lib

set_option maxRecDepth 100000 in
set_option maxHeartbeats 4000000 in
theorem insert_shift (B : Nat) (t : List Int) (i : Nat) (r : Int) (w : World) (g c nb : Nat) (hi : i < t.length) (ht : t.length ≤ 2000) (hc : t.length + 1 ≤ c)
    (hown : w.ownsRow B 21 1 (.slice (some ⟨g, 0, none⟩) t.length c) t.length (cellsOf t)) (hne : nb ≠ g)
    (hnb : w.heap[nb]? = some (.cells #[.int .i32 r] 21 (0, 0))) :
    Calls Tryd.prog 109 #[.slice (some ⟨g, 0, none⟩) t.length c, .int .i64 i, .slice (some ⟨nb, 0, none⟩) 1 1] w fun e w' => ∃ v', e = .returned v' ∧ w'.ownsRow B 21 1 v' (t.length + 1) (cellsOf (insAt t i r)) ∧ Below B w w' := by
  obtain ⟨g', c', cur, e, hBg, hg, hnc, hcm, hcs, htk⟩ : ∃ g' c' cur, Value.slice (some ⟨g, 0, none⟩) t.length c = .slice (some ⟨g', 0, none⟩) t.length c' ∧ B ≤ g' ∧ w.heap[g']? = some (.cells cur 21 (0, 0)) ∧ t.length ≤ c' ∧ c' ≤ maxLen ∧ cur.size = c' ∧ cur.toList.take (t.length) = cellsOf t := by
    rcases hown.2 with ⟨h', _⟩ | h'
    · simp at h'
    · simpa only [Nat.mul_one] using h'
  obtain ⟨rfl, rfl⟩ : g = g' ∧ c = c' := by simpa using e
  have hsz : (Tryd.prog.info? 21).map (·.size) = some 1 := by
    obtain ⟨i0, hi0, h0, h1, h2⟩ := info_parts Tryd.infoRune
    rw [hi0]; simp [h1]
  have hcl := cellsOf_len t
  have hdl : ((cellsOf t).drop (i)).length = (t.length - i) := by rw [List.length_drop]; omega
  obtain ⟨vs, hvs⟩ : ∃ vs : List Value, vs = [.int .i32 r] := ⟨_, rfl⟩
  have hv1 : ∀ v ∈ vs, v.oneCell' = true := by rw [hvs]; intro u hu; simp at hu; subst hu; rfl
  have hvl : vs.length = 1 := by rw [hvs]; rfl
  obtain ⟨R1, hR1⟩ : ∃ R1 : Array Value, R1 = (cur.toList.take ((i + 1)) ++ (cellsOf t).drop (i) ++ cur.toList.drop ((i + 1) + ((cellsOf t).drop (i)).length)).toArray := ⟨_, rfl⟩
  obtain ⟨R2, hR2⟩ : ∃ R2 : Array Value, R2 = (R1.toList.take (i) ++ vs ++ R1.toList.drop (i + vs.length)).toArray := ⟨_, rfl⟩
  have hrow := row_shift cur.toList (cellsOf t) vs i t.length c hi hc (by rw [Array.length_toList]; exact hcs) htk hvl
  have hR1l : R1.size = c := by rw [hR1]; simp only [List.size_toArray, List.length_append, List.length_take, List.length_drop, Array.length_toList]; omega
  have hR2t : R2.toList.take ((t.length + 1)) = cellsOf (insAt t i r) ∧ R2.size = c := by
    have e1 : R1.toList = cur.toList.take ((i + 1)) ++ (cellsOf t).drop (i) ++ cur.toList.drop ((i + 1) + ((cellsOf t).drop (i)).length) := by rw [hR1]
    have e2 : R2.toList = R1.toList.take (i) ++ vs ++ R1.toList.drop (i + vs.length) := by rw [hR2]
    refine ⟨?_, ?_⟩
    · rw [e2, e1, hrow.1, cellsOf_ins, hvs]
    · rw [← Array.length_toList, e2, e1]; exact hrow.2
  have hcur : ∀ W : World, W.heap[g]? = w.heap[g]? → ∀ j v, ((cellsOf t).drop (i))[j]? = some v → W.cell? ((⟨g, i, none⟩ : Addr).add j) = some v := fun W hW j v hj => by
    rw [Addr.add_lit]
    have : W.cell? ⟨g, i + j, none⟩ = cur.toList[i + j]? := by simp [World.cell?, hW, hg]
    rw [this]
    rw [List.getElem?_drop, ← htk, List.getElem?_take] at hj
    split at hj
    · exact hj
    · cases hj
  have hcp1 : ∀ ty dc sc, (Builtin.copy_ #[24, 24] ty #[.slice (some ⟨g, (i + 1), none⟩) (t.length + 1 - (i + 1)) dc, .slice (some ⟨g, i, none⟩) (t.length + 1 - i) sc]).run Tryd.prog w.drew = .ok (goInt ((t.length - i : Nat) : Int)) (w.drew.setRow g R1) := fun ty dc sc => by
    rw [hR1]
    exact run_copyK w.drew _ _ ty 21 g ((i + 1)) (t.length + 1 - (i + 1)) dc ⟨g, i, none⟩ (t.length + 1 - i) sc cur 21 ((cellsOf t).drop (i)) 1 (t.length - i) Tryd.underlying24 hsz hg (by simp only [Nat.min_def]; split <;> omega) hdl (hcur w.drew rfl) (by omega) (fun v hv => cellsOf_one t v (List.mem_of_mem_drop hv))
  have hcp2 : ∀ ty dc, (Builtin.copy_ #[24, 24] ty #[.slice (some ⟨g, i, none⟩) (t.length + 1 - i) dc, .slice (some ⟨nb, 0, none⟩) 1 1]).run Tryd.prog (w.drew.setRow g R1) = .ok (goInt 1) ((w.drew.setRow g R1).setRow g R2) := fun ty dc => by
    rw [hR2]
    exact run_copyK (w.drew.setRow g R1) _ _ ty 21 g (i) (t.length + 1 - i) dc ⟨nb, 0, none⟩ 1 1 R1 21 vs 1 1 Tryd.underlying24 hsz (setRow_heap _ _ _ _ _ _ hg) (by simp only [Nat.min_def]; split <;> omega) hvl (by rw [hvs]; exact news_one ((setRow_other hne _).trans hnb)) (by omega) hv1
  have hov : ∀ lb cb, (callFunc 133 #[.slice (some ⟨nb, 0, none⟩) 1 1, .slice (some ⟨g, (i + 1), none⟩) lb cb]).run Tryd.prog w = .ok (.value (.bool false)) w := fun lb cb => by
    rw [run_callFunc_extern Tryd.func133 (by kernel_rfl) (by kernel_rfl) (by kernel_rfl) (e := Extern.SlicesOverlaps.overlaps #[24, 24] #[4]) (by kernel_rfl),
      Lib.run_overlaps_apart w 24 4 21 Tryd.underlying24 1 Tryd.sizeRu ⟨nb, 0, none⟩ ⟨g, (i + 1), none⟩ 1 1 lb cb hne 21 21 1 (c) (by simp [World.shape?, hnb]) (by simp [World.shape?, hg, hcs]) (by omega) (by simp [World.frozen?, hnb]) (by simp [World.frozen?, hnb])]
    rfl
  have HO : Hid (((w.drew.setRow g R1).setRow g R2).ownsRow B 21 1 (.slice (some ⟨g, 0, none⟩) (t.length + 1) c) (t.length + 1) (cellsOf (insAt t i r)) ∧ Below B w ((w.drew.setRow g R1).setRow g R2)) :=
    ⟨⟨by rw [cellsOf_len, insAt_len t i r (by omega), Nat.mul_one], .inr ⟨g, c, R2, rfl, hBg, setRow_heap _ _ _ _ _ _ (setRow_heap _ _ _ _ _ _ hg), hc, hcm, by rw [Nat.mul_one]; exact hR2t.2, by rw [Nat.mul_one]; exact hR2t.1⟩⟩, ((Below.refl B w).drew.trans (below_setRow hBg R1)).trans (below_setRow hBg R2)⟩
  unfold maxLen at hcm
  have hz2 : ¬ ((i : Int) = (t.length : Int)) := by omega
  have hw1 : IntKind.i64.wrap ((i : Int) + 1) = (i : Int) + 1 := by rw [IntKind.wrap_i64]; omega
  have hb1 : (0 : Int) ≤ (i : Int) + 1 := by omega
  have hin : i ≤ t.length := by omega
  have htn : ((i : Int) + 1).toNat = i + 1 := by omega
  have hb2 : ¬ (c = i + 1) := by omega
  have hb3 : (i : Int) ≤ (t.length : Int) + 1 := by omega
  have hb4 : ¬ (c = i) := by omega
  have hq : ((i : Int) == (t.length : Int)) = false := by simp; omega
  generalize t.length = n at *
  clear hrow hR2t hR1l hdl hcl hown e hcs htk hg hnb hcur hvs hv1 hvl hR1 hR2 hnc hBg
  have mixed : Tryd.prog.follows Departure.mixedOrders = true := by kernel_rfl
  go_enter Tryd.func109, Tryd.ntmps109
  go_wp2_with (simp only [hov])
  go_region_law_o (refine step_copy_runI rfl _ _ 24 24 rfl (.slice (some ⟨g, (i + 1), none⟩) (n + 1 - (i + 1)) (c - (i + 1))) (.slice (some ⟨g, i, none⟩) (n + 1 - i) (c - i)) (by simp [Act.eval, Act.put]) (by simp [Act.eval, Act.put]) (hcp1 _ _ _) ?_)
  go_wp2_with (at_builtin; refine wpList_copy_runI _ rfl _ _ 24 24 rfl _ _ rfl rfl (hcp2 _ _) ?_)
  go_ret
  exact ⟨_, rfl, HO.out⟩
end Go.Proofs.YtockmkcoehepiaaDoor

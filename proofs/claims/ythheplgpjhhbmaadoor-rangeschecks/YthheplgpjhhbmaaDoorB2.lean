/-
  What is proved here: that slices.Insert of a range at the end of its slice answers as it should.
-/
import Derived.Test.YthheplgpjhhbmaaDoorB1
namespace Go.Proofs.YthheplgpjhhbmaaDoor
open Go.RowKit

theorem news_one {w : World} {nb : Nat} {x0 x1 x2 : Value} {t : TypeId} (h : w.heap[nb]? = some (.cells #[x0, x1, x2] t (0, 0))) : ∀ j u, [x0, x1, x2][j]? = some u → w.cell? ((⟨nb, 0, none⟩ : Addr).add j) = some u := by
  obtain ⟨h0, h1, h2⟩ := three_cell h
  intro j u hj
  rw [Addr.add_lit, Nat.zero_add]
  match j, hj with
  | 0, hj => simp at hj; subst hj; exact h0
  | 1, hj => simp at hj; subst hj; exact h1
  | 2, hj => simp at hj; subst hj; exact h2
set_option maxRecDepth 20000 in
set_option maxHeartbeats 1000000 in
theorem insert_end : InsOk (fun t i => i = t.length) := by
  rintro B t i r w v nb hi ht rfl hB hown hne hnb
  obtain ⟨i0, hi, hz0, hz1, hz2⟩ := info_parts Tryd.infoRange
  have HNW := Hid.mk' (news_one hnb)
  have HL := Hid.mk' hown.lt
  have e2 : insAt t t.length r = t ++ [r] := by simp [insAt]
  have HE := Hid.mk' e2
  obtain ⟨sa, sc, rfl, hcap⟩ : ∃ sa sc, v = .slice sa t.length sc ∧ t.length ≤ sc := by
    rcases hown.2 with ⟨h1, h2⟩ | ⟨g', cap', cu, h1, -, -, h3, -⟩
    · exact ⟨_, _, by rw [h1, h2], by omega⟩
    · exact ⟨_, _, h1, h3⟩
  clear hnb e2
  go_enter Tryd.func26, Tryd.ntmps26
  go_wp2_with (at_builtin; refine wpList_append_own _ rfl _ _ 22 rfl B 37 i0 (.agg #[.int .i32 0, .int .i32 0, .int .i64 0]) 3 16 Tryd.underlying22 hi hz0 hz1 hz2 rfl (by decide) _ _ _ rfl hown ⟨nb, 0, none⟩ 1 1 [.int .i32 r.lo, .int .i32 r.hi, .int .i64 r.val] rfl rfl HNW.out (by intro u hu; simp at hu; rcases hu with rfl | rfl | rfl <;> rfl) (by unfold maxLen; omega) (by omega) hB ?_; intro v' w3 hown' hgrow _)
  all_goals
    have hgrow2 : w.grownBy w3 (Value.slice sa t.length sc).ownBlock := hgrow
    have R1 : Below B w w3 := (Below.refl B w).grown hgrow2 hB (fun j hj => (HL.out j hj).1)
    have R2 : w3.ownsRow B 37 3 v' (t.length + 1) (cellsOf (insAt t t.length r)) := by rw [HE.out, cellsOf_snoc]; exact hown'
    go_ret
    exact ⟨_, rfl, R2, R1⟩
end Go.Proofs.YthheplgpjhhbmaaDoor

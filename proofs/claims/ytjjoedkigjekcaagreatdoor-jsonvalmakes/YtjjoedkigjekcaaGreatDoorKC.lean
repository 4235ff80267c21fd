/-
  What is proved here: rows of values of a call's own; what jsonval.Size answers.
-/
import Derived.Test.YtjjoedkigjekcaaGreatDoorK4
import Derived.Test.YtjjoedkigjekcaaGreatDoorJ6
import Derived.Deep.AppendLies
import Derived.Deep.RegionHeld3
namespace Go.Proofs.YtjjoedkigjekcaaGreatDoor
open Go.RowKit

theorem Tryz.infoValue : (Tryz.prog.info? 25).map (fun i => (i.zero, i.size, i.bytes)) = some (some (.agg #[.int .i64 0, .string ⟨#[]⟩, .slice none 0 0, .slice none 0 0]), 4, 72) := by kernel_rfl
theorem own_form {W : World} {B : Nat} {T : TypeId} {z : Nat} {v : Value} {n : Nat} {xs : List Value} (h : W.ownsRow B T z v n xs) : ∃ a c, v = .slice a n c := by
  rcases h.2 with ⟨e, e2⟩ | ⟨g, cap, cur, e, _⟩
  · exact ⟨none, 0, by rw [e, e2]⟩
  · exact ⟨_, _, e⟩
/-- a slice of the call's own, cut -/
theorem own_cut {W : World} {B : Nat} {T : TypeId} {z g n cap : Nat} {xs : List Value} (h : W.ownsRow B T z (.slice (some ⟨g, 0, none⟩) n cap) n xs) {m : Nat} (hm : m ≤ n) : W.ownsRow B T z (.slice (some ⟨g, 0, none⟩) m cap) m (xs.take (m * z)) := by
  obtain ⟨h1, h2⟩ := h
  have hmz : m * z ≤ n * z := Nat.mul_le_mul_right z hm
  rcases h2 with ⟨h, _⟩ | ⟨g', cap', cur, h, hbg, hg, hnc, hcm, hcs, htake⟩
  · simp at h
  · simp only [Value.slice.injEq, Option.some.injEq, Addr.mk.injEq, and_true, true_and] at h
    obtain ⟨rfl, rfl⟩ := h
    refine ⟨by rw [List.length_take]; omega, .inr ⟨g, cap, cur, rfl, hbg, hg, by omega, hcm, hcs, ?_⟩⟩
    rw [← htake, List.take_take, Nat.min_eq_left hmz]
theorem run_append_none_any (t ty e : TypeId) (i : TypeInfo) (size base : Nat) (ht : Tryz.prog.underlying t = some (.slice e)) (hi : Tryz.prog.info? e = some i) (w : World) (c : Nat)
    (v : Value) (n : Nat) (xs : List Value) (hown : w.ownsRow base e size v n xs) :
    (Builtin.append_ #[t, t] ty #[v, .slice none 0 c]).run Tryz.prog w = .ok v w := by
  rcases hown.2 with ⟨rfl, rfl⟩ | ⟨g, cap, cur, rfl, _, _, hnc, _⟩
  · simp [Builtin.append_, run_underlying ht, sizeOf, typeInfo, hi, Builtin.lenOf, Builtin.firstCells]
  · simp [Builtin.append_, run_underlying ht, sizeOf, typeInfo, hi, Builtin.lenOf, Builtin.firstCells, hnc, storeCells]
set_option maxRecDepth 20000 in
/-- append(own, l...): values that came in, nil or not, at a step of a region that draws -/
theorem step_vals {ops : Array Oper} {o : Oper} {a : Act} {K : Act → World → Prop} {Q : Exit → Act → World → Prop} {E : Prop} (w : World) (hgd : o.guard = none) (s x : Operand)
    (ho : o.op = .call { callee := .builtin .append, args := #[s, x], argTypes := #[22, 22] })
    (B : Nat) (v : Value) (n : Nat) (xs : List Value) (hs : a.eval s = v) (hown : w.ownsRow B 25 4 v n xs)
    (pa : Option Addr) (m c : Nat) (news : List Value) (hx : a.eval x = .slice pa m c) (hl : news.length = m * 4) (hnews : ∀ j u, news[j]? = some u → ∃ ba oa, pa = some ⟨ba, oa, none⟩ ∧ w.cell? ⟨ba, oa + j, none⟩ = some u) (h1 : ∀ u ∈ news, u.oneCell' = true)
    (hb : n + m ≤ 100000) (hbase : B ≤ w.heap.size)
    (h : ∀ v' w', w'.ownsRow B 25 4 v' (n + m) (xs ++ news) → w.grownBy w' v.ownBlock → K (a.put o.dst v') w') :
    if Region.wanted o (yielded ops a.tmps) = true then Oper.wp Tryz.prog o a w K Q else E := by
  obtain ⟨i0, hi, hz0, hz1, hz2⟩ := info_parts Tryz.infoValue
  have hw : Region.wanted o (yielded ops a.tmps) = true := by simp [Region.wanted, hgd]
  rw [if_pos hw]
  · cases pa with
    | none =>
      have hm : m = 0 := by
        rcases Nat.eq_zero_or_pos m with h | h
        · exact h
        · exfalso
          have : 0 < news.length := by omega
          obtain ⟨ba, oa, e, -⟩ := hnews 0 _ (List.getElem?_eq_getElem this)
          cases e
      subst hm
      have hn : news = [] := List.eq_nil_of_length_eq_zero (by omega)
      subst hn
      have hr := run_append_none_any 22 o.type 25 i0 4 B Tryz.underlying22 hi w c v n xs hown
      unfold Oper.wp execOp
      simp only [ho, resolve, invoke, builtin, Sem.run_bind, Sem.run_pure, Result.andThen_ok, List.map_toArray, List.map_cons, List.map_nil, hs, hx, hr]
      exact h v w (by simpa using hown) ⟨rfl, rfl, rfl, Nat.le_refl _, fun _ _ _ => rfl⟩
    | some ad =>
      by_cases hm : m = 0
      · subst hm
        have hn : news = [] := List.eq_nil_of_length_eq_zero (by omega)
        subst hn
        exact wp_append_own w s x 22 ho B 25 i0 (.agg #[.int .i64 0, .string ⟨#[]⟩, .slice none 0 0, .slice none 0 0]) 4 72 Tryz.underlying22 hi hz0 hz1 hz2 rfl (by decide) v n xs hs hown ad 0 c [] hx rfl (fun j u hj => by simp at hj) h1 (by unfold maxLen; omega) (by omega) hbase (fun v' w' h2 h3 _ => h v' w' h2 h3)
      · obtain ⟨ba, oa, e, -⟩ := hnews 0 _ (List.getElem?_eq_getElem (by omega))
        obtain rfl := Option.some.inj e
        exact wp_append_own w s x 22 ho B 25 i0 (.agg #[.int .i64 0, .string ⟨#[]⟩, .slice none 0 0, .slice none 0 0]) 4 72 Tryz.underlying22 hi hz0 hz1 hz2 rfl (by decide) v n xs hs hown ⟨ba, oa, none⟩ m c news hx hl (fun j u hj => by
          obtain ⟨ba', oa', e', hc⟩ := hnews j u hj
          have e2 := Option.some.inj e'
          injection e2 with e3 e4
          subst e3 e4
          rw [Addr.add_lit]; exact hc) h1 (by unfold maxLen; omega) (by omega) hbase (fun v' w' h2 h3 _ => h v' w' h2 h3)
/-! ## what waits -/
def flatL (L : List (J × List Value)) : List Value := L.flatMap fun x => x.2
theorem flatL_len {L : List (J × List Value)} (h : ∀ x ∈ L, x.2.length = 4) : (flatL L).length = L.length * 4 := by
  induction L with
  | nil => rfl
  | cons a L ih =>
    have h1 := h a (by simp)
    have h2 := ih (fun x hx => h x (by simp [hx]))
    unfold flatL at *
    rw [List.flatMap_cons, List.length_append, List.length_cons]; omega
theorem flatL_append (L M : List (J × List Value)) : flatL (L ++ M) = flatL L ++ flatL M := by simp [flatL]
theorem flatL_take {L : List (J × List Value)} {x : J × List Value} (h : ∀ y ∈ L, y.2.length = 4) : (flatL (L ++ [x])).take (L.length * 4) = flatL L := by
  rw [flatL_append, ← flatL_len h, List.take_left]
theorem flatL_last {L : List (J × List Value)} {t : J} {cs : List Value} (h : ∀ y ∈ L, y.2.length = 4) (q : Nat) : (flatL (L ++ [(t, cs)]))[L.length * 4 + q]? = cs[q]? := by
  rw [flatL_append, ← flatL_len h, List.getElem?_append_right (by omega), Nat.add_sub_cancel_left]
  simp [flatL]
theorem VJ.one {W : World} {t : J} {cs : List Value} (h : VJ W t cs) : ∀ u ∈ cs, u.oneCell' = true := by
  obtain ⟨a, ca, b, cb, rfl⟩ := h.cells
  intro u hu
  simp at hu
  rcases hu with rfl | rfl | rfl | rfl <;> rfl
theorem flatL_one {W : World} {L : List (J × List Value)} (h : ∀ x ∈ L, VJ W x.1 x.2) : ∀ u ∈ flatL L, u.oneCell' = true := by
  intro u hu
  obtain ⟨x, hx, hu⟩ := List.mem_flatMap.1 hu
  exact (h x hx).one u hu
/-- a list's elements, with their cells, as they lie from a place on -/
theorem rows_from {w : World} {ba : Nat} : ∀ (l : List J) (o : Nat), (∀ j t, l[j]? = some t → ∃ ds, CellsAt w ba (o + j * 4) ds 4 ∧ VJ w t ds) →
    ∃ L : List (J × List Value), L.map (fun x => x.1) = l ∧ (∀ x ∈ L, VJ w x.1 x.2) ∧ ∀ j u, (flatL L)[j]? = some u → w.cell? ⟨ba, o + j, none⟩ = some u
  | [], o, _ => ⟨[], rfl, by simp, fun j u h => by simp [flatL] at h⟩
  | t :: l, o, h => by
    obtain ⟨ds, hc, hv⟩ := h 0 t rfl
    obtain ⟨L, h1, h2, h3⟩ := rows_from l (o + 4) (fun j t hj => by
      obtain ⟨ds, hc, hv⟩ := h (j + 1) t (by simpa using hj)
      exact ⟨ds, by rw [show o + 4 + j * 4 = o + (j + 1) * 4 from by omega]; exact hc, hv⟩)
    refine ⟨(t, ds) :: L, by simp [h1], ?_, ?_⟩
    · intro x hx
      rcases List.mem_cons.1 hx with rfl | hx
      · exact hv
      · exact h2 x hx
    · intro j u hu
      have e : flatL ((t, ds) :: L) = ds ++ flatL L := by simp [flatL]
      rw [e] at hu
      rcases Nat.lt_or_ge j 4 with g | g
      · rw [List.getElem?_append_left (by rw [hc.1]; exact g)] at hu
        have := hc.2 j u hu
        rwa [show o + 0 * 4 + j = o + j from by omega] at this
      · rw [List.getElem?_append_right (by rw [hc.1]; exact g), hc.1] at hu
        have := h3 (j - 4) u hu
        rwa [show o + 4 + (j - 4) = o + j from by omega] at this
theorem rows_of {w : World} {a : Option Addr} {l : List J} (h : ∀ j t, l[j]? = some t → ∃ ba oa ds, a = some ⟨ba, oa, none⟩ ∧ CellsAt w ba (oa + j * 4) ds 4 ∧ VJ w t ds) :
    ∃ L : List (J × List Value), L.map (fun x => x.1) = l ∧ (∀ x ∈ L, VJ w x.1 x.2) ∧ ∀ j u, (flatL L)[j]? = some u → ∃ ba oa, a = some ⟨ba, oa, none⟩ ∧ w.cell? ⟨ba, oa + j, none⟩ = some u := by
  cases l with
  | nil => exact ⟨[], rfl, by simp, fun j u h => by simp [flatL] at h⟩
  | cons t l =>
    obtain ⟨ba, oa, ds, rfl, -⟩ := h 0 t rfl
    obtain ⟨L, h1, h2, h3⟩ := rows_from (w := w) (ba := ba) (t :: l) oa (fun j t hj => by
      obtain ⟨ba', oa', ds, e, hc, hv⟩ := h j t hj
      have e2 := Option.some.inj e
      injection e2 with e3 e4
      subst e3 e4
      exact ⟨ds, hc, hv⟩)
    exact ⟨L, h1, h2, fun j u hu => ⟨ba, oa, rfl, h3 j u hu⟩⟩
theorem sum_fst (f : J → Nat) (L : List (J × List Value)) : (L.map fun x => f x.1).sum = ((L.map fun x => x.1).map f).sum := by rw [List.map_map]; rfl
theorem size_pos (t : J) : 1 ≤ sizeM t := by
  obtain ⟨k, s, l, m⟩ := t
  rw [sizeM_mk]; omega
end Go.Proofs.YtjjoedkigjekcaaGreatDoor

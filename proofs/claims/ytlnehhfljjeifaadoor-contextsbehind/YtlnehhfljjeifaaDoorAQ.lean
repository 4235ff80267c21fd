/-
  What is proved here: append of whatever row of runes to one of the call's own; a row of runes as an argument, whose nil is a nil of length 0 and capacity 0.
-/
import Derived.Test.YtlnehhfljjeifaaDoorA6
import Derived.Laws.AppendOwnNone
import Derived.Laws.AppendOwn
namespace Go.Proofs.YtlnehhfljjeifaaDoor
open Go.RowKit

/-- a slice value that holds runes; a nil one has no room -/
def RunesZ (w : World) (v : Value) (rs : List Int) : Prop := Runes w v rs ∧ ∀ n c, v = .slice none n c → c = 0
theorem RunesZ.own {w : World} {B : Nat} {v : Value} {rs : List Int} (h : w.ownsRow B 21 1 v rs.length (rs.map (Value.int .i32))) : RunesZ w v rs := by
  refine ⟨Runes.own h, fun n c e => ?_⟩
  rcases h.2 with ⟨e1, _⟩ | ⟨g, cap, cur, e1, _⟩
  · rw [e1] at e; injection e with _ _ e3; exact e3.symm
  · rw [e1] at e; injection e with e2; cases e2
theorem RunesZ.below {w w' : World} {v : Value} {rs : List Int} (h : RunesZ w v rs) (hb : Below w.heap.size w w') : RunesZ w' v rs := ⟨h.1.below hb, h.2⟩
set_option maxRecDepth 20000 in
theorem wpList_append_runes {ops : Array Oper} {rest : List Oper} {o : Oper} {a : Act} {w : World} {Q : Exit → Act → World → Prop} (hgd : o.guard = none) (s x : Operand)
    (ho : o.op = .call { callee := .builtin .append, args := #[s, x], argTypes := #[24, 24] })
    (base : Nat) (v : Value) (xs : List Int) (hs : a.eval s = v) (hown : w.ownsRow base 21 1 v xs.length (xs.map (Value.int .i32)))
    (vx : Value) (ys : List Int) (hx : a.eval x = vx) (hR : RunesZ w vx ys) (hlen : xs.length + ys.length ≤ 100000) (hbase : base ≤ w.heap.size)
    (h : ∀ v' w', w'.ownsRow base 21 1 v' (xs ++ ys).length ((xs ++ ys).map (Value.int .i32)) → w.grownBy w' v.ownBlock → wpList Tryd.prog ops Q rest (a.put o.dst v') w') : wpList Tryd.prog ops Q (o :: rest) a w := by
  obtain ⟨i0, hi, hz0, hz1, hz2⟩ := info_parts Tryd.infoRune
  obtain ⟨⟨ad, c, rfl, hc⟩, hn⟩ := hR
  cases ad with
  | none =>
    obtain rfl := hn _ _ rfl
    obtain rfl : ys = [] := by
      cases ys with
      | nil => rfl
      | cons y ys => obtain ⟨b, off, e, _⟩ := hc 0 (by simp); cases e
    refine wpList_append_own_none hgd s x 24 ho base 21 i0 1 Tryd.underlying24 hi v xs.length (xs.map (Value.int .i32)) hs hown hx ?_
    exact h v w (by simpa using hown) (World.grownBy.refl _ _)
  | some ad =>
    refine wpList_append_own _ hgd s x 24 ho base 21 i0 (.int .i32 0) 1 4 Tryd.underlying24 hi hz0 hz1 hz2 rfl (by decide) v xs.length (xs.map (Value.int .i32)) hs hown ad ys.length c (ys.map (Value.int .i32)) hx (by simp) ?_ (ints_one .i32 ys) (by unfold maxLen; omega) (by omega) hbase ?_
    · intro j u hj
      have hjl : j < ys.length := by
        rcases Nat.lt_or_ge j ys.length with q | q
        · exact q
        · rw [List.getElem?_eq_none (by simpa using q)] at hj; cases hj
      obtain ⟨b, off, e, hcell⟩ := hc j hjl
      obtain rfl : ad = ⟨b, off, none⟩ := by simpa using e
      rw [List.getElem?_map, List.getElem?_eq_getElem hjl] at hj
      simp only [Option.map_some, Option.some.injEq] at hj
      rw [Addr.add_lit]
      rw [hcell, ← hj]
      simp [List.getD, List.getElem?_eq_getElem hjl]
    · intro v' w' h1 h2 _
      exact h v' w' (by simpa using h1) h2
end Go.Proofs.YtlnehhfljjeifaaDoor

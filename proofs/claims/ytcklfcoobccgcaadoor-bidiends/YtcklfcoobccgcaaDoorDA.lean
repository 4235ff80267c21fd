/-
  What is proved here: append of whatever row of runes to one of the call's own; a row of runes as an argument, whose nil has no room.
-/
import Derived.Test.YtcklfcoobccgcaaDoorD0
import Derived.Test.YtcklfcoobccgcaaDoorBase
import Derived.Laws.AppendOwnNone
import Derived.Laws.AppendOwn
namespace Go.Proofs.YtcklfcoobccgcaaDoor
open Go.RowKit Go.Shelf

/-- a slice value that holds runes; a nil one has no room -/
def RunesZ (w : World) (v : Value) (rs : List Int) : Prop := Runes w v rs ∧ ∀ n c, v = .slice none n c → c = 0
theorem RunesZ.below {w w' : World} {v : Value} {rs : List Int} (h : RunesZ w v rs) (hb : Below w.heap.size w w') : RunesZ w' v rs := ⟨h.1.below hb, h.2⟩
theorem own_slice {B : Nat} {e : TypeId} {k : Nat} {v : Value} {n : Nat} {xs : List Value} {w : World} (h : w.ownsRow B e k v n xs) : ∃ a c, v = .slice a n c := by
  rcases h.2 with ⟨rfl, h0⟩ | ⟨g, cap, cur, rfl, _, _⟩
  · exact ⟨none, 0, by rw [h0]⟩
  · exact ⟨_, _, rfl⟩
set_option maxRecDepth 20000 in
theorem wpList_append_runes {ops : Array Oper} {rest : List Oper} {o : Oper} {a : Act} {w : World} {Q : Exit → Act → World → Prop} (hgd : o.guard = none) (s x : Operand)
    (ho : o.op = .call { callee := .builtin .append, args := #[s, x], argTypes := #[25, 25] })
    (base : Nat) (v : Value) (xs : List Int) (hs : a.eval s = v) (hown : w.ownsRow base 21 1 v xs.length (xs.map (Value.int .i32)))
    (vx : Value) (ys : List Int) (hx : a.eval x = vx) (hR : RunesZ w vx ys) (hlen : xs.length + ys.length ≤ 100000) (hbase : base ≤ w.heap.size)
    (h : ∀ v' w', w'.ownsRow base 21 1 v' (xs ++ ys).length ((xs ++ ys).map (Value.int .i32)) → w.grownBy w' v.ownBlock → wpList Tryd.prog ops Q rest (a.put o.dst v') w') : wpList Tryd.prog ops Q (o :: rest) a w := by
  obtain ⟨i0, hi, hz0, hz1, hz2⟩ := info_parts Tryd.infoRune
  obtain ⟨⟨ad, c, rfl, hc⟩, hn⟩ := hR
  cases ad with
  | none =>
    obtain rfl := hn _ _ rfl
    obtain rfl : ys = [] := by
      cases ys with
      | nil => rfl
      | cons y ys => obtain ⟨b, off, e, _⟩ := hc 0 (by simp); cases e
    refine wpList_append_own_none hgd s x 25 ho base 21 i0 1 Tryd.underlying25 hi v xs.length (xs.map (Value.int .i32)) hs hown hx ?_
    exact h v w (by simpa using hown) (World.grownBy.refl _ _)
  | some ad =>
    refine wpList_append_own _ hgd s x 25 ho base 21 i0 (.int .i32 0) 1 4 Tryd.underlying25 hi hz0 hz1 hz2 rfl (by decide) v xs.length (xs.map (Value.int .i32)) hs hown ad ys.length c (ys.map (Value.int .i32)) hx (by simp) ?_ (ints_one .i32 ys) (by unfold maxLen; omega) (by omega) hbase ?_
    · intro j u hj
      have hjl : j < ys.length := by
        rcases Nat.lt_or_ge j ys.length with q | q
        · exact q
        · rw [List.getElem?_eq_none (by simpa using q)] at hj; cases hj
      obtain ⟨b, off, e, hcell⟩ := hc j hjl
      obtain rfl : ad = ⟨b, off, none⟩ := by simpa using e
      rw [List.getElem?_map, List.getElem?_eq_getElem hjl] at hj
      simp only [Option.map_some, Option.some.injEq] at hj
      rw [Addr.add_lit]
      rw [hcell, ← hj]
      simp [List.getD, List.getElem?_eq_getElem hjl]
    · intro v' w' h1 h2 _
      exact h v' w' (by simpa using h1) h2
theorem own_new (w : World) (B : Nat) (xs : List Value) (t : TypeId) (hB : B ≤ w.heap.size) (hl : xs.length ≤ maxLen) : (w.alloc (.cells xs.toArray t)).ownsRow B t 1 (.slice (some ⟨w.heap.size, 0, none⟩) xs.length xs.length) xs.length xs := by
  refine ⟨by simp, .inr ⟨w.heap.size, xs.length, xs.toArray, rfl, hB, Array.getElem?_push_size, Nat.le_refl _, hl, by simp, by simp⟩⟩
theorem below_tr {A : Nat} {W0 w : World} (_ : Below A W0 w) : ∀ W W', Below w.heap.size w W → Below W.heap.size W W' → Below w.heap.size w W' := fun _ _ h1 h2 => h1.trans (h2.mono h1.size)
theorem owns_drew {B : Nat} {e : TypeId} {k : Nat} {v : Value} {n : Nat} {xs : List Value} {w : World} (h : w.ownsRow B e k v n xs) : w.drew.ownsRow B e k v n xs := h
/-- a row of one rune, just made -/
theorem one_rune (w : World) (r : Int) : RunesZ (w.alloc (.cells #[.int .i32 r] 21)) (.slice (some ⟨w.heap.size, 0, none⟩) 1 1) [r] :=
  ⟨⟨some ⟨w.heap.size, 0, none⟩, 1, rfl, fun j hj => ⟨w.heap.size, 0, rfl, by
    have hj' : j < 1 := hj
    obtain rfl : j = 0 := by omega
    rw [World.cell?_alloc_new]; rfl⟩⟩, fun n c e => by injection e with e1; cases e1⟩
theorem dirsM_app (l : List Rg) (x y : List Int) : dirsM l (x ++ y) = dirsM l x ++ dirsM l y := by simp [dirsM]
theorem take_succ_getD {m : List Int} {k : Nat} (h : k < m.length) : m.take (k + 1) = m.take k ++ [m.getD k 0] := by
  rw [List.take_succ_eq_append_getElem h]
  simp [List.getD, List.getElem?_eq_getElem h]
end Go.Proofs.YtcklfcoobccgcaaDoor

/-
  What is proved here: slices.Insert of a rune at the end of its slice; copies within a row of runes.
-/
import Derived.Test.YtockmkcoehepiaaDoorZ8
import Derived.Test.YtockmkcoehepiaaDoorY4
import Derived.Shelf.Spec.SlicesInsert
import Derived.Laws.CopyRow
import Derived.Lib.AppendZerosOnto
namespace Go.Proofs.YtockmkcoehepiaaDoor
open Go.RowKit Go.Shelf Go.Lib

def cellsOf (t : List Int) : List Value := t.map (Value.int .i32)
def insAt (t : List Int) (i : Nat) (r : Int) : List Int := insM t i r
theorem cellsOf_len (t : List Int) : (cellsOf t).length = t.length := by simp [cellsOf]
theorem insAt_len (t : List Int) (i : Nat) (r : Int) (_h : i ≤ t.length) : (insAt t i r).length = t.length + 1 := ins_len t i r
theorem cellsOf_one (t : List Int) : ∀ u ∈ cellsOf t, u.oneCell' = true := ints_one _ _
theorem cellsOf_ins (t : List Int) (i : Nat) (r : Int) : cellsOf (insAt t i r) = (cellsOf t).take i ++ [.int .i32 r] ++ (cellsOf t).drop i := by
  unfold cellsOf insAt insM
  simp
theorem lt_of_block3 {w : World} {b : Nat} {o : Obj} (h : w.heap[b]? = some o) : b < w.heap.size := (Array.getElem?_eq_some_iff.1 h).1
theorem news_one {w : World} {nb : Nat} {x0 : Value} {t : TypeId} (h : w.heap[nb]? = some (.cells #[x0] t (0, 0))) : ∀ j u, [x0][j]? = some u → w.cell? ((⟨nb, 0, none⟩ : Addr).add j) = some u := by
  intro j u hj
  rw [Addr.add_lit, Nat.zero_add]
  match j, hj with
  | 0, hj => simp at hj; subst hj; simp [World.cell?, h]
/-- copy, of elements of one cell, into a row of its own -/
theorem run_copyK {P : Program} (w : World) (dT sT ty elem : TypeId) (g o dLen dCap : Nat) (a : Addr) (sLen sCap : Nat) (cur : Array Value) (t : TypeId) (cs : List Value) (k m : Nat)
    (hu : P.underlying dT = some (.slice elem)) (hs : (P.info? elem).map (·.size) = some 1)
    (hg : w.heap[g]? = some (.cells cur t (0, 0))) (hm : Nat.min sLen dLen = m) (hn : cs.length = m)
    (hsrc : ∀ j v, cs[j]? = some v → w.cell? (a.add j) = some v) (hfit : o + cs.length ≤ cur.size) (h1 : ∀ v ∈ cs, v.oneCell' = true) (_hk : k = 1 := by rfl) :
    (Builtin.copy_ #[dT, sT] ty #[.slice (some ⟨g, o, none⟩) dLen dCap, .slice (some a) sLen sCap]).run P w =
      .ok (goInt m) (w.setRow g (cur.toList.take o ++ cs ++ cur.toList.drop (o + cs.length)).toArray) := by
  have hl := run_loadCells_list (P := P) w a cs hsrc
  have hst := run_storeCells_at P g o t cs 0 cur w hg (by simpa using hfit) h1
  cases hq : P.info? elem with
  | none => simp [hq] at hs
  | some i =>
    have hi : i.size = 1 := by simpa [hq] using hs
    simp [Builtin.copy_, run_underlying hu, Builtin.lenOf, Builtin.firstCells, sizeOf, typeInfo, hq, hi, hm, ← hn, hl, hst]
theorem below_setRow {B g : Nat} {w : World} (h : B ≤ g) (cs : Array Value) : Below B w (w.setRow g cs) := by
  refine ⟨rfl, rfl, rfl, by simp [World.setRow], fun k hk => ?_⟩
  show (w.heap.modify g _)[k]? = _
  rw [Array.getElem?_modify]
  split
  · omega
  · simp
theorem setRow_other {w : World} {g b : Nat} (h : b ≠ g) (cs : Array Value) : (w.setRow g cs).heap[b]? = w.heap[b]? := by
  show (w.heap.modify g _)[b]? = _
  rw [Array.getElem?_modify]
  split
  · omega
  · simp
theorem Tryd.sizeRu (w : World) : (Go.sizeOf 21).run Tryd.prog w = .ok 1 w := by
  obtain ⟨i0, hi, hz0, hz1, hz2⟩ := info_parts Tryd.infoRune
  simp [Go.sizeOf, typeInfo, hi, hz1]
set_option maxRecDepth 20000 in
set_option maxHeartbeats 1000000 in
theorem insert_end (B : Nat) (t : List Int) (r : Int) (w : World) (v : Value) (nb : Nat) (ht : t.length ≤ 2000) (hB : B ≤ w.heap.size) (hown : w.ownsRow B 21 1 v t.length (cellsOf t))
    (hnb : w.heap[nb]? = some (.cells #[.int .i32 r] 21 (0, 0))) :
    Calls Tryd.prog 109 #[v, .int .i64 t.length, .slice (some ⟨nb, 0, none⟩) 1 1] w fun e w' => ∃ v', e = .returned v' ∧ w'.ownsRow B 21 1 v' (t.length + 1) (cellsOf (insAt t t.length r)) ∧ Below B w w' := by
  obtain ⟨i0, hi, hz0, hz1, hz2⟩ := info_parts Tryd.infoRune
  have HNW := Hid.mk' (news_one hnb)
  have HL := Hid.mk' hown.lt
  have e2 : cellsOf (insAt t t.length r) = cellsOf t ++ [.int .i32 r] := by simp [insAt, insM, cellsOf]
  have HE := Hid.mk' e2
  obtain ⟨sa, sc, rfl, hcap⟩ : ∃ sa sc, v = .slice sa t.length sc ∧ t.length ≤ sc := by
    rcases hown.2 with ⟨h1, h2⟩ | ⟨g', cap', cu, h1, -, -, h3, -⟩
    · exact ⟨_, _, by rw [h1, h2], by omega⟩
    · exact ⟨_, _, h1, h3⟩
  clear hnb e2
  go_enter Tryd.func109, Tryd.ntmps109
  go_wp2_with (at_builtin; refine wpList_append_own _ rfl _ _ 24 rfl B 21 i0 (.int .i32 0) 1 4 Tryd.underlying24 hi hz0 hz1 hz2 rfl (by decide) _ _ _ rfl hown ⟨nb, 0, none⟩ 1 1 [.int .i32 r] rfl rfl HNW.out (by intro u hu; simp at hu; subst hu; rfl) (by unfold maxLen; omega) (by omega) hB ?_; intro v' w3 hown' hgrow _)
  all_goals
    have hgrow2 : w.grownBy w3 (Value.slice sa t.length sc).ownBlock := hgrow
    have R1 : Below B w w3 := (Below.refl B w).grown hgrow2 hB (fun j hj => (HL.out j hj).1)
    have R2 : w3.ownsRow B 21 1 v' (t.length + 1) (cellsOf (insAt t t.length r)) := by rw [HE.out]; exact hown'
    go_ret
    exact ⟨_, rfl, R2, R1⟩
/-- the row behind the two copies -/
theorem row_shift (cur cs vs : List Value) (i n c : Nat) (hi : i < n) (hc : n + 1 ≤ c) (hl : cur.length = c) (hcs : cur.take (n) = cs) (hv : vs.length = 1) :
    (((cur.take ((i + 1)) ++ cs.drop (i) ++ cur.drop ((i + 1) + (cs.drop (i)).length)).take (i) ++ vs ++ (cur.take ((i + 1)) ++ cs.drop (i) ++ cur.drop ((i + 1) + (cs.drop (i)).length)).drop (i + vs.length))).take ((n + 1)) = cs.take (i) ++ vs ++ cs.drop (i)
    ∧ (((cur.take ((i + 1)) ++ cs.drop (i) ++ cur.drop ((i + 1) + (cs.drop (i)).length)).take (i) ++ vs ++ (cur.take ((i + 1)) ++ cs.drop (i) ++ cur.drop ((i + 1) + (cs.drop (i)).length)).drop (i + vs.length))).length = c := by
  have hcl : cs.length = n := by rw [← hcs, List.length_take]; omega
  have hdl : (cs.drop (i)).length = (n - i) := by rw [List.length_drop]; omega
  have e1 : (cur.take ((i + 1)) ++ cs.drop (i) ++ cur.drop ((i + 1) + (cs.drop (i)).length)).take (i) = cs.take (i) := by
    rw [List.append_assoc, List.take_append_of_le_length (by rw [List.length_take]; omega), List.take_take, ← hcs, List.take_take]
    congr 1
    omega
  have e2 : (cur.take ((i + 1)) ++ cs.drop (i) ++ cur.drop ((i + 1) + (cs.drop (i)).length)).drop (i + vs.length) = cs.drop (i) ++ cur.drop ((i + 1) + (cs.drop (i)).length) := by
    have h3 : i + vs.length = (cur.take ((i + 1))).length := by rw [List.length_take]; omega
    rw [List.append_assoc, h3, List.drop_left]
  rw [e1, e2]
  refine ⟨?_, ?_⟩
  · have h4 : (n + 1) = (cs.take (i) ++ vs ++ cs.drop (i)).length := by simp only [List.length_append, List.length_take, hdl]; omega
    rw [← List.append_assoc, h4, List.take_left]
  · simp only [List.length_append, List.length_take, List.length_drop]; omega
end Go.Proofs.YtockmkcoehepiaaDoor

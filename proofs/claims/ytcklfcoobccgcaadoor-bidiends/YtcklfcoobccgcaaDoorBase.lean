/-
  What is proved here: what the walks lean on: the value that is a Fault, the package-level variables that are read, errors.As at a variable of its own, rows of new memory, what the laws' Named and Is answer.
-/
import Derived.Test.YtcklfcoobccgcaaDoorErr
import Derived.Test.YtcklfcoobccgcaaDoorErrIs
import Derived.RegionTactic
import Derived.ChangeAlike
import Derived.Below
import Derived.OwnWalk
import Derived.Laws.BytesArg
import Derived.Lib.IndexBytes
import Derived.Lib.Strings
namespace Go.Proofs.YtcklfcoobccgcaaDoor
open Go.RowKit

theorem ret_int {k : IntKind} {a b : Int} (h : a = b) : Ending.returned (.int k a) = .returned (.int k b) := by rw [h]
theorem ret_bool {a b : Bool} (h : a = b) : Ending.returned (.bool a) = .returned (.bool b) := by rw [h]
/-- A VALUE THAT IS A FAULT: a *api.Fault in new memory, with its place and the named error that it wraps. -/
def Flt (w' : World) (v : Value) (base : Nat) (at_ : Int) (p : Addr) : Prop :=
  ∃ b, base ≤ b ∧ v = .iface 55 (.pointer (some ⟨b, 0, none⟩)) ∧ w'.cell? ⟨b, 0, none⟩ = some (.int .i64 at_) ∧ w'.cell? ⟨b, 1, none⟩ = some (.iface 117 (.pointer (some p)))
theorem Hid.mk' {p : Prop} (h : p) : Hid p := h
theorem lt_of_cell {w : World} {b o : Nat} {v : Value} (h : w.cell? ⟨b, o, none⟩ = some v) : b < w.heap.size := by
  rcases Nat.lt_or_ge b w.heap.size with g | g
  · exact g
  · simp [World.cell?, Array.getElem?_eq_none g] at h
/-- errors.As at a variable of the caller's own (the block B): the variable is set; no block below B is turned. -/
theorem as_hit2 (e : Addr) (B : Nat) (old : Value) (w : World) (hg : w.cell? ⟨1, 0, none⟩ = some (.iface 95 (.agg #[.pointer (some ⟨19, 32, none⟩)]))) (ht : w.cell? ⟨B, 0, none⟩ = some old) (hf : w.frozen? ⟨B, 0, none⟩ = false) :
    Calls Tryd.prog 30 #[.iface 55 (.pointer (some e)), .iface 57 (.pointer (some ⟨B, 0, none⟩))] w fun ev w' => ev = .returned (.bool true) ∧ w'.cell? ⟨B, 0, none⟩ = some (.pointer (some e)) ∧ Below B w w' := by
  have hB := lt_of_cell ht
  refine (as_hit e ⟨B, 0, none⟩ old w hg ht hf).mono ?_
  rintro ev w' ⟨rfl, rfl⟩
  refine ⟨rfl, ?_, ?_⟩
  · refine World.cell?_setCell_same _ _ _ (u := old) ?_
    rw [World.cell?_alloc_lt _ _ ⟨B, 0, none⟩ (by simp; omega), World.cell?_alloc_lt _ _ ⟨B, 0, none⟩ (by simp; omega), World.cell?_alloc_lt _ _ ⟨B, 0, none⟩ (by simp; omega), World.cell?_alloc_lt _ _ ⟨B, 0, none⟩ hB]; exact ht
  · refine Below.setCell (p := ⟨B, 0, none⟩) ?_ (Nat.le_refl B) _
    exact ((((Below.refl _ _).alloc (by omega) _).alloc (by simp; omega) _).alloc (by simp; omega) _).alloc (by simp; omega) _
theorem Flt.weaken {w : World} {v : Value} {B B' : Nat} {a a' : Int} {p : Addr} (h : Flt w v B a p) (hB : B' ≤ B) (ha : a = a') : Flt w v B' a' p := by
  obtain ⟨b, h1, h2, h3, h4⟩ := h
  exact ⟨b, Nat.le_trans hB h1, h2, by rw [← ha]; exact h3, h4⟩
/-- WHAT THE WALKS READ OF PACKAGE-LEVEL VARIABLES: five of the named errors. -/
structure Gl (p : Nat → Addr) (w : World) : Prop where
  g4 : w.cell? ⟨5, 0, none⟩ = some (.iface 117 (.pointer (some (p 4))))
  g6 : w.cell? ⟨7, 0, none⟩ = some (.iface 117 (.pointer (some (p 6))))
  g12 : w.cell? ⟨0, 0, none⟩ = some (.iface 117 (.pointer (some (p 12))))
  g17 : w.cell? ⟨17, 0, none⟩ = some (.iface 117 (.pointer (some (p 17))))
  g18 : w.cell? ⟨18, 0, none⟩ = some (.iface 117 (.pointer (some (p 18))))
theorem Gl.below {p : Nat → Addr} {w w' : World} (h : Gl p w) (hb : Below w.heap.size w w') : Gl p w' :=
  ⟨(hb.cell (lt_of_cell h.g4)).trans h.g4, (hb.cell (lt_of_cell h.g6)).trans h.g6, (hb.cell (lt_of_cell h.g12)).trans h.g12, (hb.cell (lt_of_cell h.g17)).trans h.g17, (hb.cell (lt_of_cell h.g18)).trans h.g18⟩
/-- the type error's handle -/
def Et (w : World) : Prop := w.cell? ⟨1, 0, none⟩ = some (.iface 95 (.agg #[.pointer (some ⟨19, 32, none⟩)]))
theorem Et.below {w w' : World} (h : Et w) (hb : Below w.heap.size w w') : Et w' := by
  unfold Et at *
  exact (hb.cell (lt_of_cell h)).trans h
/-- the numbers of the named errors that layers 3, 7 and 9 tell -/
def Code (c : Nat) : Prop := c = 4 ∨ c = 6 ∨ c = 12 ∨ c = 17 ∨ c = 18
theorem cut_toList (s : ByteArray) (k : Nat) : (s.extract k s.size).data.toList = s.data.toList.drop k := by
  rw [Lib.extract_to_end]
theorem cut_size (s : ByteArray) (k : Nat) : (s.extract k s.size).size = s.size - k := by simp
theorem Tryd.infoRune : (Tryd.prog.info? 21).map (fun i => (i.zero, i.size, i.bytes)) = some (some (.int .i32 0), 1, 4) := by kernel_rfl
theorem owns_below {B : Nat} {e : TypeId} {k : Nat} {v : Value} {n : Nat} {xs : List Value} {w w' : World} (h : w.ownsRow B e k v n xs) (hb : Below w.heap.size w w') : w'.ownsRow B e k v n xs := by
  refine h.kept (row := none) ⟨hb.os, hb.tape, hb.output, hb.size, fun k hk _ => hb.block k hk⟩ ?_
  cases v.ownBlock with
  | none => exact .inl rfl
  | some k => exact .inr (by simp)
theorem Tryd.infoByte : (Tryd.prog.info? 5).map (fun i => (i.zero, i.size, i.bytes)) = some (some (.int .u8 0), 1, 1) := by kernel_rfl
theorem cells_new (w : World) (l : List Value) (t : TypeId) : ∀ j u, l[j]? = some u → (w.alloc (.cells l.toArray t)).cell? ((⟨w.heap.size, 0, none⟩ : Addr).add j) = some u := by
  intro j u h
  have e : (⟨w.heap.size, 0, none⟩ : Addr).add j = ⟨w.heap.size, j, none⟩ := by simp [Addr.add]; omega
  rw [e, World.cell?_alloc_new, List.getElem?_toArray]
  exact h
theorem ints_one (k : IntKind) (l : List Int) : ∀ u ∈ l.map (Value.int k), u.oneCell' = true := by
  intro u hu
  obtain ⟨z, _, rfl⟩ := List.mem_map.1 hu
  rfl
/-- a slice value that holds runes -/
def Runes (w : World) (v : Value) (rs : List Int) : Prop :=
  ∃ a cap, v = .slice a rs.length cap ∧ ∀ j, j < rs.length → ∃ b off, a = some ⟨b, off, none⟩ ∧ w.cell? ⟨b, off + j, none⟩ = some (.int .i32 (rs.getD j 0))
theorem Runes.below {w w' : World} {v : Value} {rs : List Int} (h : Runes w v rs) (hb : Below w.heap.size w w') : Runes w' v rs := by
  obtain ⟨a, cap, rfl, h⟩ := h
  refine ⟨a, cap, rfl, fun j hj => ?_⟩
  obtain ⟨b, off, rfl, hc⟩ := h j hj
  exact ⟨b, off, rfl, (hb.cell (p := ⟨b, off + j, none⟩) (lt_of_cell hc)).trans hc⟩
theorem Runes.below' {w w' : World} {v : Value} {rs : List Int} (h : Runes w v rs) {B : Nat} (hb : Below B w w') (hB : ∀ b, v.ownBlock = some b → b < B) : Runes w' v rs := by
  obtain ⟨a, cap, rfl, h⟩ := h
  refine ⟨a, cap, rfl, fun j hj => ?_⟩
  obtain ⟨b, off, rfl, hc⟩ := h j hj
  exact ⟨b, off, rfl, (hb.cell (p := ⟨b, off + j, none⟩) (hB b rfl)).trans hc⟩
theorem Runes.own {w : World} {B : Nat} {v : Value} {rs : List Int} (h : w.ownsRow B 21 1 v rs.length (rs.map (Value.int .i32))) : Runes w v rs := by
  rcases h.2 with ⟨rfl, h0⟩ | ⟨g, cap, cur, rfl, _, _⟩
  · exact ⟨none, 0, by rw [h0], fun j hj => by omega⟩
  · refine ⟨some ⟨g, 0, none⟩, cap, rfl, fun j hj => ⟨g, 0, rfl, ?_⟩⟩
    rw [Nat.zero_add, h.cellAt j (by omega)]
    simp [List.getElem?_eq_getElem hj]
set_option maxHeartbeats 400000 in
theorem named_any (c : Nat) (w : World) (p : Nat → Addr) (hg : Gl p w) (hc : Code c) :
    Calls Tryd.prog 32 #[.int .i64 c] w fun e w' => e = .returned (.iface 117 (.pointer (some (p c)))) ∧ w = w' := by
  obtain ⟨g4, g6, g12, g17, g18⟩ := hg
  rcases hc with rfl | rfl | rfl | rfl | rfl
  all_goals
    go_enter Tryd.func32, Tryd.ntmps32
    go_wp2
    go_ret
    exact ⟨rfl, rfl⟩
set_option maxHeartbeats 400000 in
theorem lawIs_none (at_ : Int) (w : World) :
    Calls Tryd.prog 11 #[.nilIface, .int .i64 at_, .int .i64 0] w fun e w' => e = .returned (.bool true) ∧ w = w' := by
  go_enter Tryd.func11, Tryd.ntmps11
  go_wp2
  go_ret
  exact ⟨rfl, rfl⟩
set_option maxHeartbeats 1000000 in
theorem lawIs_fault (v : Value) (B : Nat) (at_ : Int) (c : Nat) (w : World) (p : Nat → Addr) (hg : Gl p w) (het : Et w) (hc : Code c) (hf : Flt w v B at_ (p c)) :
    Calls Tryd.prog 11 #[v, .int .i64 at_, .int .i64 c] w fun e w' => e = .returned (.bool true) ∧ Below w.heap.size w w' := by
  unfold Et at het
  obtain ⟨b, -, rfl, h0, h1⟩ := hf
  have hcz : ((c : Int) == 0) = false := by rcases hc with rfl | rfl | rfl | rfl | rfl <;> rfl
  have hb := lt_of_cell h0
  have hgA : (w.alloc (.cells #[.pointer none] 55)).cell? ⟨1, 0, none⟩ = some (.iface 95 (.agg #[.pointer (some ⟨19, 32, none⟩)])) := by
    rw [World.cell?_alloc_lt _ _ ⟨1, 0, none⟩ (lt_of_cell het)]; exact het
  have htA : (w.alloc (.cells #[.pointer none] 55)).cell? ⟨w.heap.size, 0, none⟩ = some (.pointer none) := by simp
  have hfA : (w.alloc (.cells #[.pointer none] 55)).frozen? ⟨w.heap.size, 0, none⟩ = false := by simp
  have HA := Hid.mk' (as_hit2 ⟨b, 0, none⟩ _ _ _ hgA htA hfA)
  have HB : Hid (∀ w', Below w.heap.size (w.alloc (.cells #[.pointer none] 55)) w' → Below w.heap.size w w') := fun w' h => ((Below.refl _ _).alloc (Nat.le_refl _) _).trans h
  have HC := Hid.mk' hc
  have HG := Hid.mk' hg
  clear hgA htA hfA hc hg het
  go_enter Tryd.func11, Tryd.ntmps11
  go_wp2_with (first | (go_at_call 30; refine HA.out.mono ?_; rintro e w1 ⟨rfl, hc, hbel⟩; have HW := HB.out _ hbel; have k0 := (HW.cell (p := ⟨b, 0, none⟩) hb).trans h0; have k1 := (HW.cell (p := ⟨b, 1, none⟩) hb).trans h1; clear h0 h1) | (go_at_call 32; refine (named_any c w1 p (HG.out.below HW) HC.out).mono ?_; rintro e w2 ⟨rfl, rfl⟩) | (go_at_call 31; refine (is_fault b 0 (p c) w1 k1).mono ?_; rintro e w2 ⟨rfl, rfl⟩))
  go_ret
  exact ⟨rfl, HW⟩

end Go.Proofs.YtcklfcoobccgcaaDoor

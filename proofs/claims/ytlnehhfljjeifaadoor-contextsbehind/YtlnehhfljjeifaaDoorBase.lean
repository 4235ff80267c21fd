/-
  What is proved here: what the walks lean on: the value that is a Fault, the package-level variables that are read, errors.As at a variable of its own, rows of new memory, what the laws' Named and Is answer.
-/
import Derived.Test.YtlnehhfljjeifaaDoorErr
import Derived.Test.YtlnehhfljjeifaaDoorErrIs
import Derived.RegionTactic
import Derived.ChangeAlike
import Derived.Below
import Derived.OwnWalk
import Derived.Laws.BytesArg
import Derived.Lib.IndexBytes
import Derived.Lib.Strings
namespace Go.Proofs.YtlnehhfljjeifaaDoor
open Go.RowKit

theorem ret_int {k : IntKind} {a b : Int} (h : a = b) : Ending.returned (.int k a) = .returned (.int k b) := by rw [h]
theorem ret_bool {a b : Bool} (h : a = b) : Ending.returned (.bool a) = .returned (.bool b) := by rw [h]
/-- A VALUE THAT IS A FAULT: a *api.Fault in new memory, with its place and the named error that it wraps. -/
def Flt (w' : World) (v : Value) (base : Nat) (at_ : Int) (p : Addr) : Prop :=
  ∃ b, base ≤ b ∧ v = .iface 56 (.pointer (some ⟨b, 0, none⟩)) ∧ w'.cell? ⟨b, 0, none⟩ = some (.int .i64 at_) ∧ w'.cell? ⟨b, 1, none⟩ = some (.iface 121 (.pointer (some p)))
theorem Hid.mk' {p : Prop} (h : p) : Hid p := h
theorem lt_of_cell {w : World} {b o : Nat} {v : Value} (h : w.cell? ⟨b, o, none⟩ = some v) : b < w.heap.size := by
  rcases Nat.lt_or_ge b w.heap.size with g | g
  · exact g
  · simp [World.cell?, Array.getElem?_eq_none g] at h
theorem Flt.weaken {w : World} {v : Value} {B B' : Nat} {a a' : Int} {p : Addr} (h : Flt w v B a p) (hB : B' ≤ B) (ha : a = a') : Flt w v B' a' p := by
  obtain ⟨b, h1, h2, h3, h4⟩ := h
  exact ⟨b, Nat.le_trans hB h1, h2, by rw [← ha]; exact h3, h4⟩
/-- WHAT THE WALKS READ OF PACKAGE-LEVEL VARIABLES: seven of the named errors; what Hangul's runes are. -/
structure Gl (p : Nat → Addr) (w : World) : Prop where
  g4 : w.cell? ⟨3, 0, none⟩ = some (.iface 121 (.pointer (some (p 4))))
  g5 : w.cell? ⟨6, 0, none⟩ = some (.iface 121 (.pointer (some (p 5))))
  g6 : w.cell? ⟨4, 0, none⟩ = some (.iface 121 (.pointer (some (p 6))))
  g7 : w.cell? ⟨5, 0, none⟩ = some (.iface 121 (.pointer (some (p 7))))
  g9 : w.cell? ⟨1, 0, none⟩ = some (.iface 121 (.pointer (some (p 9))))
  g17 : w.cell? ⟨2, 0, none⟩ = some (.iface 121 (.pointer (some (p 17))))
  g18 : w.cell? ⟨0, 0, none⟩ = some (.iface 121 (.pointer (some (p 18))))
  h0 : w.cell? ⟨7, 0, none⟩ = some (.int .i32 44032)
  h1 : w.cell? ⟨7, 1, none⟩ = some (.int .i32 55203)
  h2 : w.cell? ⟨7, 2, none⟩ = some (.int .i32 4352)
  h3 : w.cell? ⟨7, 3, none⟩ = some (.int .i32 4370)
  h4 : w.cell? ⟨7, 4, none⟩ = some (.int .i32 4449)
  h5 : w.cell? ⟨7, 5, none⟩ = some (.int .i32 4469)
  h6 : w.cell? ⟨7, 6, none⟩ = some (.int .i32 4520)
  h7 : w.cell? ⟨7, 7, none⟩ = some (.int .i32 4546)
theorem Gl.below {p : Nat → Addr} {w w' : World} (h : Gl p w) (hb : Below w.heap.size w w') : Gl p w' :=
  ⟨(hb.cell (lt_of_cell h.g4)).trans h.g4, (hb.cell (lt_of_cell h.g5)).trans h.g5, (hb.cell (lt_of_cell h.g6)).trans h.g6, (hb.cell (lt_of_cell h.g7)).trans h.g7, (hb.cell (lt_of_cell h.g9)).trans h.g9, (hb.cell (lt_of_cell h.g17)).trans h.g17, (hb.cell (lt_of_cell h.g18)).trans h.g18,
    (hb.cell (lt_of_cell h.h0)).trans h.h0, (hb.cell (lt_of_cell h.h1)).trans h.h1, (hb.cell (lt_of_cell h.h2)).trans h.h2, (hb.cell (lt_of_cell h.h3)).trans h.h3, (hb.cell (lt_of_cell h.h4)).trans h.h4, (hb.cell (lt_of_cell h.h5)).trans h.h5, (hb.cell (lt_of_cell h.h6)).trans h.h6, (hb.cell (lt_of_cell h.h7)).trans h.h7⟩
/-- what Hangul's runes are, alone -/
structure Hg (w : World) : Prop where
  h0 : w.cell? ⟨7, 0, none⟩ = some (.int .i32 44032)
  h1 : w.cell? ⟨7, 1, none⟩ = some (.int .i32 55203)
  h2 : w.cell? ⟨7, 2, none⟩ = some (.int .i32 4352)
  h3 : w.cell? ⟨7, 3, none⟩ = some (.int .i32 4370)
  h4 : w.cell? ⟨7, 4, none⟩ = some (.int .i32 4449)
  h5 : w.cell? ⟨7, 5, none⟩ = some (.int .i32 4469)
  h6 : w.cell? ⟨7, 6, none⟩ = some (.int .i32 4520)
  h7 : w.cell? ⟨7, 7, none⟩ = some (.int .i32 4546)
theorem Gl.hg {p : Nat → Addr} {w : World} (h : Gl p w) : Hg w := ⟨h.h0, h.h1, h.h2, h.h3, h.h4, h.h5, h.h6, h.h7⟩
theorem Hg.below {w w' : World} (h : Hg w) (hb : Below w.heap.size w w') : Hg w' :=
  ⟨(hb.cell (lt_of_cell h.h0)).trans h.h0, (hb.cell (lt_of_cell h.h1)).trans h.h1, (hb.cell (lt_of_cell h.h2)).trans h.h2, (hb.cell (lt_of_cell h.h3)).trans h.h3, (hb.cell (lt_of_cell h.h4)).trans h.h4, (hb.cell (lt_of_cell h.h5)).trans h.h5, (hb.cell (lt_of_cell h.h6)).trans h.h6, (hb.cell (lt_of_cell h.h7)).trans h.h7⟩
/-- the numbers of the named errors that layer 4 tells -/
def Code (c : Nat) : Prop := c = 4 ∨ c = 5 ∨ c = 6 ∨ c = 7 ∨ c = 9 ∨ c = 17 ∨ c = 18
theorem cut_toList (s : ByteArray) (k : Nat) : (s.extract k s.size).data.toList = s.data.toList.drop k := by
  rw [Lib.extract_to_end]
theorem cut_size (s : ByteArray) (k : Nat) : (s.extract k s.size).size = s.size - k := by simp
theorem Tryd.infoRune : (Tryd.prog.info? 21).map (fun i => (i.zero, i.size, i.bytes)) = some (some (.int .i32 0), 1, 4) := by kernel_rfl
theorem owns_below {B : Nat} {e : TypeId} {k : Nat} {v : Value} {n : Nat} {xs : List Value} {w w' : World} (h : w.ownsRow B e k v n xs) (hb : Below w.heap.size w w') : w'.ownsRow B e k v n xs := by
  refine h.kept (row := none) ⟨hb.os, hb.tape, hb.output, hb.size, fun k hk _ => hb.block k hk⟩ ?_
  cases v.ownBlock with
  | none => exact .inl rfl
  | some k => exact .inr (by simp)
theorem Tryd.infoByte : (Tryd.prog.info? 5).map (fun i => (i.zero, i.size, i.bytes)) = some (some (.int .u8 0), 1, 1) := by kernel_rfl
theorem cells_new (w : World) (l : List Value) (t : TypeId) : ∀ j u, l[j]? = some u → (w.alloc (.cells l.toArray t)).cell? ((⟨w.heap.size, 0, none⟩ : Addr).add j) = some u := by
  intro j u h
  have e : (⟨w.heap.size, 0, none⟩ : Addr).add j = ⟨w.heap.size, j, none⟩ := by simp [Addr.add]; omega
  rw [e, World.cell?_alloc_new, List.getElem?_toArray]
  exact h
theorem ints_one (k : IntKind) (l : List Int) : ∀ u ∈ l.map (Value.int k), u.oneCell' = true := by
  intro u hu
  obtain ⟨z, _, rfl⟩ := List.mem_map.1 hu
  rfl
/-- a slice value that holds runes -/
def Runes (w : World) (v : Value) (rs : List Int) : Prop :=
  ∃ a cap, v = .slice a rs.length cap ∧ ∀ j, j < rs.length → ∃ b off, a = some ⟨b, off, none⟩ ∧ w.cell? ⟨b, off + j, none⟩ = some (.int .i32 (rs.getD j 0))
theorem Runes.below {w w' : World} {v : Value} {rs : List Int} (h : Runes w v rs) (hb : Below w.heap.size w w') : Runes w' v rs := by
  obtain ⟨a, cap, rfl, h⟩ := h
  refine ⟨a, cap, rfl, fun j hj => ?_⟩
  obtain ⟨b, off, rfl, hc⟩ := h j hj
  exact ⟨b, off, rfl, (hb.cell (p := ⟨b, off + j, none⟩) (lt_of_cell hc)).trans hc⟩
theorem Runes.below' {w w' : World} {v : Value} {rs : List Int} (h : Runes w v rs) {B : Nat} (hb : Below B w w') (hB : ∀ b, v.ownBlock = some b → b < B) : Runes w' v rs := by
  obtain ⟨a, cap, rfl, h⟩ := h
  refine ⟨a, cap, rfl, fun j hj => ?_⟩
  obtain ⟨b, off, rfl, hc⟩ := h j hj
  exact ⟨b, off, rfl, (hb.cell (p := ⟨b, off + j, none⟩) (hB b rfl)).trans hc⟩
theorem Runes.own {w : World} {B : Nat} {v : Value} {rs : List Int} (h : w.ownsRow B 21 1 v rs.length (rs.map (Value.int .i32))) : Runes w v rs := by
  rcases h.2 with ⟨rfl, h0⟩ | ⟨g, cap, cur, rfl, _, _⟩
  · exact ⟨none, 0, by rw [h0], fun j hj => by omega⟩
  · refine ⟨some ⟨g, 0, none⟩, cap, rfl, fun j hj => ⟨g, 0, rfl, ?_⟩⟩
    rw [Nat.zero_add, h.cellAt j (by omega)]
    simp [List.getElem?_eq_getElem hj]
end Go.Proofs.YtlnehhfljjeifaaDoor

/-
  What is proved here: what checkClasses and checkExcluded answer. · what checkTwice answers at a norm that is right but for rows that compose alike. · what decomp.Check answers, where slices.Sort does what it says. · slices.Sort at one rune; the laws' Same at equal runes; what the laws of layer 4's awake answers. · what the laws of layer 4's awake answers.
-/
import Derived.Test.YtoceaielclomcaaRRGreatDoorA9
import Derived.Test.YtoceaielclomcaaRRGreatDoorA7
import Derived.Test.YtoceaielclomcaaRRGreatDoorT3
import Derived.Maps.Keyed
import Derived.WideKeyPair
namespace Go.Proofs.YtoceaielclomcaaRRGreatDoor
open Go.RowKit

end Go.Proofs.YtoceaielclomcaaRRGreatDoor
namespace Go.Proofs.YtoceaielclomcaaRRGreatDoor
open Go.RowKit Go.WideMaps

def pairV (x y : Int) : Value := .agg #[.int .i32 x, .int .i32 y]
/-- the entries of a map are pairs of right runes -/
def Pairs (es : Array MapEntry) : Prop := ∀ e ∈ es.toList, ∃ x y, rightR x = true ∧ rightR y = true ∧ e.key = pairV x y
/-- the entries are just the pairs of the rows that compose, among the first k -/
def Twos (t : Nm) (k : Nat) (es : Array MapEntry) : Prop :=
  (∀ e ∈ es.toList, ∃ j, j < k ∧ composesM t j = true ∧ e.key = pairV (rw_ t.rows j).to0 (rw_ t.rows j).to1) ∧ (∀ j, j < k → composesM t j = true → ∃ e ∈ es.toList, e.key = pairV (rw_ t.rows j).to0 (rw_ t.rows j).to1)
theorem pairV_inj {x y x' y' : Int} (h : pairV x y = pairV x' y') : x = x' ∧ y = y' := by
  unfold pairV at h; simpa using h
theorem comp_two {t : Nm} {j : Nat} (h : composesM t j = true) : (rw_ t.rows j).to.length = 2 := by
  unfold composesM at h
  rw [Bool.and_eq_true, Bool.and_eq_true, Bool.and_eq_true, decide_eq_true_eq] at h
  exact h.1.1.1
theorem to_right {t : Nm} (hc : ∀ i, i < t.rows.length → rowCode t.rows i = 0) {j : Nat} (hj : j < t.rows.length) (h : (rw_ t.rows j).to.length = 2) : rightR (rw_ t.rows j).to0 = true ∧ rightR (rw_ t.rows j).to1 = true := by
  obtain ⟨-, -, h0, hall⟩ := formed_parts (rowCode_zero (hc j hj)).2.2.1
  refine ⟨(may_right h0).1, (may_right (hall _ ?_)).1⟩
  unfold Rw.to1
  rw [List.getD, List.getElem?_eq_getElem (by omega)]
  exact List.getElem_mem _
theorem Twos.pairs {t : Nm} {k : Nat} {es : Array MapEntry} (h : Twos t k es) (hk : k ≤ t.rows.length) (hc : ∀ i, i < t.rows.length → rowCode t.rows i = 0) : Pairs es := fun e he => by
  obtain ⟨j, hj, hcm, e1⟩ := h.1 e he
  obtain ⟨h0, h1⟩ := to_right hc (by omega) (comp_two hcm)
  exact ⟨_, _, h0, h1, e1⟩
theorem Twos.skip {t : Nm} {k : Nat} {es : Array MapEntry} (h : Twos t k es) (hn : composesM t k = false) : Twos t (k + 1) es := by
  refine ⟨fun e he => ?_, fun j hj hcm => ?_⟩
  · obtain ⟨j, hj, h1⟩ := h.1 e he
    exact ⟨j, by omega, h1⟩
  · rcases Nat.lt_or_ge j k with g | g
    · exact h.2 j g hcm
    · obtain rfl : j = k := by omega
      rw [hn] at hcm; cases hcm
theorem Twos.push {t : Nm} {k : Nat} {es : Array MapEntry} (h : Twos t k es) (hy : composesM t k = true) (val : Value) (clk : Nat) : Twos t (k + 1) (es.push ⟨pairV (rw_ t.rows k).to0 (rw_ t.rows k).to1, val, clk⟩) := by
  refine ⟨fun e he => ?_, fun j hj hcm => ?_⟩
  · simp only [Array.toList_push, List.mem_append, List.mem_singleton] at he
    rcases he with he | rfl
    · obtain ⟨j, hj, h1⟩ := h.1 e he
      exact ⟨j, by omega, h1⟩
    · exact ⟨k, by omega, hy, rfl⟩
  · rcases Nat.lt_or_ge j k with g | g
    · obtain ⟨e, he, h1⟩ := h.2 j g hcm
      exact ⟨e, by simp [he], h1⟩
    · obtain rfl : j = k := by omega
      exact ⟨⟨pairV (rw_ t.rows j).to0 (rw_ t.rows j).to1, val, clk⟩, by simp, rfl⟩
theorem there_hit {t : Nm} {k : Nat} {es : Array MapEntry} (h : Twos t k es) (hy : composesM t k = true) (he : ∃ e ∈ es.toList, e.key = pairV (rw_ t.rows k).to0 (rw_ t.rows k).to1) : thereCode t k = 7 := by
  obtain ⟨e, he, e1⟩ := he
  obtain ⟨j, hj, hcm, e2⟩ := h.1 e he
  obtain ⟨h0, h1⟩ := pairV_inj (e2.symm.trans e1)
  unfold thereCode
  rw [if_pos]
  refine ⟨hy, List.any_eq_true.2 ⟨j, by simpa using hj, ?_⟩⟩
  rw [hcm, h0, h1]; simp
theorem there_miss {t : Nm} {k : Nat} {es : Array MapEntry} (h : Twos t k es) (he : ∀ e ∈ es.toList, e.key ≠ pairV (rw_ t.rows k).to0 (rw_ t.rows k).to1) : thereCode t k = 0 := by
  unfold thereCode
  rw [if_neg]
  rintro ⟨-, ha⟩
  obtain ⟨j, hj, h2⟩ := List.any_eq_true.1 ha
  rw [Bool.and_eq_true, Bool.and_eq_true, beq_iff_eq, beq_iff_eq] at h2
  obtain ⟨hcm, h0, h1⟩ := h2
  obtain ⟨e, hm, e1⟩ := h.2 j (by simpa using hj) hcm
  exact he e hm (by rw [e1, h0, h1])
theorem there_not {t : Nm} {k : Nat} (h : composesM t k = false) : thereCode t k = 0 := by
  unfold thereCode
  rw [if_neg]
  rintro ⟨h1, -⟩
  rw [h] at h1; cases h1
end Go.Proofs.YtoceaielclomcaaRRGreatDoor
namespace Go.Proofs.YtoceaielclomcaaRRGreatDoor
open Go.RowKit

theorem orE_assoc (a b c : Nat × Nat) : orE (orE a b) c = orE a (orE b c) := by
  unfold orE
  by_cases h : a.2 = 0
  · simp [h]
  · simp [h]
theorem Says.nil {w : World} {v : Value} {B : Nat} {p : Nat → Addr} {x : Nat × Nat} (h : Says w v B p x) : (x = (0, 0) ∧ v = .nilIface) ∨ (x.2 ≠ 0 ∧ Flt w v B x.1 (p x.2)) := h
end Go.Proofs.YtoceaielclomcaaRRGreatDoor
namespace Go.Proofs.YtoceaielclomcaaRRGreatDoor
open Go.RowKit

set_option maxRecDepth 20000 in
set_option maxHeartbeats 1000000 in
theorem len64_one (w : World) : Calls Tryz.prog 144 #[.int .u64 1] w fun e w' => (∃ l : Int, e = .returned (.int .i64 l)) ∧ w = w' := by
  go_enter Tryz.func144, Tryz.ntmps144
  go_wp2
  go_ret
  exact ⟨⟨_, rfl⟩, rfl⟩
set_option maxHeartbeats 1000000 in
theorem same_any (va vb : Value) (rs : List Int) (w : World) (hl : rs.length ≤ 268435456) (ha : Runes w va rs) (hb : Runes w vb rs) :
    Calls Tryz.prog 33 #[va, vb] w fun e w' => e = .returned (.bool true) ∧ Below w.heap.size w w' := by
  obtain ⟨a, ca, rfl, ha⟩ := ha
  obtain ⟨b, cb, rfl, hb⟩ := hb
  have HA := Hid.mk' ha
  have HB := Hid.mk' hb
  clear ha hb
  go_enter Tryz.func33, Tryz.ntmps33
  go_wp2
  go_loopw [5] (fun i wr => ∃ k : Nat, k ≤ rs.length ∧ i = .int .i64 k ∧ Below w.heap.size w wr) (fun i _ => rs.length - (intOf i).toNat)
  case atStart => exact ⟨0, Nat.zero_le _, rfl, Below.refl _ _⟩
  case round =>
    obtain ⟨k, hk, rfl, hbel⟩ := hrel
    by_cases hlt : k < rs.length
    · obtain ⟨ba, oa, rfl, ca0⟩ := HA.out k hlt
      obtain ⟨bb, ob, rfl, cb0⟩ := HB.out k hlt
      have hca := (hbel.cell (p := ⟨ba, oa + k, none⟩) (lt_of_cell ca0)).trans ca0
      have hcb := (hbel.cell (p := ⟨bb, ob + k, none⟩) (lt_of_cell cb0)).trans cb0
      clear ca0 cb0
      generalize rs.getD k 0 = r at hca hcb
      go_wp2
      go_region
      go_wp2
      go_roundw
      case rel => exact ⟨k + 1, by omega, by go_num, hbel.drew⟩
      case measure => simp [intOf]; omega
    · go_wp2
      go_ret
      exact ⟨rfl, hbel⟩
def exNorm : Nm := ⟨[⟨233, [101, 769]⟩], [⟨769, 769, 230⟩], []⟩
theorem exNorm_chk : chk4 exNorm = (0, 0) := by decide
theorem exNorm_one : oneM exNorm.rows 233 = [101, 769] := by decide
theorem exNorm_syl : oneM exNorm.rows 44033 = [4352, 4449, 4520] := by decide
end Go.Proofs.YtoceaielclomcaaRRGreatDoor
namespace Go.Proofs.YtoceaielclomcaaRRGreatDoor
open Go.RowKit

/-- runes of new memory -/
theorem runes_new (w : World) (rs : List Int) : Runes (w.alloc (.cells (rs.map (Value.int .i32)).toArray 21)) (.slice (some ⟨w.heap.size, 0, none⟩) rs.length rs.length) rs := by
  refine ⟨_, _, rfl, fun j hj => ⟨w.heap.size, 0, rfl, ?_⟩⟩
  rw [Nat.zero_add, World.cell?_alloc_new]
  simp [List.getElem?_eq_getElem hj]
theorem runes_nil (w : World) : Runes w (.slice none 0 0) [] := ⟨none, 0, rfl, fun j hj => by simp at hj⟩
end Go.Proofs.YtoceaielclomcaaRRGreatDoor

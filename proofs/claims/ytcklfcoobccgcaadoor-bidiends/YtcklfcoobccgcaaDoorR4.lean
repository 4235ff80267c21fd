/-
  What is proved here: what reaching answers at ranges whose ends rise (sort.Search with its function), what Find answers at a table.
-/
import Derived.Test.YtcklfcoobccgcaaDoorR1
namespace Go.Proofs.YtcklfcoobccgcaaDoor
open Go.RowKit

/-- the cells that the function in reaching has captured -/
def Caught (w : World) (B : Nat) (a : Option Addr) (cap : Nat) (l : List Rg) (r : Int) : Prop :=
  w.cell? ⟨B, 0, none⟩ = some (.slice a l.length cap) ∧ w.cell? ⟨B + 1, 0, none⟩ = some (.int .i32 r) ∧ Tab w (.slice a l.length cap) l
theorem Caught.below {w w' : World} {B : Nat} {a : Option Addr} {cap : Nat} {l : List Rg} {r : Int} (h : Caught w B a cap l r) (hb : Below w.heap.size w w') : Caught w' B a cap l r :=
  ⟨(hb.cell (p := ⟨B, 0, none⟩) (lt_of_cell h.1)).trans h.1, (hb.cell (p := ⟨B + 1, 0, none⟩) (lt_of_cell h.2.1)).trans h.2.1, h.2.2.below hb⟩
set_option maxHeartbeats 1000000 in
theorem reaching1_any (l : List Rg) (r : Int) (i B : Nat) (a : Option Addr) (cap : Nat) (w : World) (hc : Caught w B a cap l r) (hi : i < l.length) (_hl : l.length ≤ 2147483648) :
    Calls Tryd.prog 63 #[.int .i64 i, .pointer (some ⟨B, 0, none⟩), .pointer (some ⟨B + 1, 0, none⟩)] w fun e w' => e = .returned (.bool (decide (r ≤ (l.getD i default).hi))) ∧ Below w.heap.size w w' := by
  obtain ⟨c0, c1, a', cap', e, ht⟩ := hc
  obtain ⟨rfl, rfl⟩ : a = a' ∧ cap = cap' := by simpa using e
  obtain ⟨b, off, rfl, hc⟩ := ht i hi
  obtain ⟨-, d1, -⟩ := three_of (o := off + i * 3) hc
  generalize l.getD i default = q at *
  clear ht hc e
  go_enter Tryd.func63, Tryd.ntmps63
  go_wp2
  go_region
  go_wp2
  go_ret
  exact ⟨rfl, (Below.refl _ _).drew⟩
set_option maxHeartbeats 1000000 in
theorem search_any (l : List Rg) (r : Int) (B : Nat) (a : Option Addr) (cap : Nat) (w : World) (hc : Caught w B a cap l r) (hl : l.length ≤ 2147483648) (hmono : ∀ i j, i ≤ j → j < l.length → (l.getD i default).hi ≤ (l.getD j default).hi) :
    Calls Tryd.prog 62 #[.int .i64 l.length, .func (.func 63) #[] #[.pointer (some ⟨B, 0, none⟩), .pointer (some ⟨B + 1, 0, none⟩)]] w fun e w' => (∃ i : Nat, e = .returned (.int .i64 i) ∧ i ≤ l.length ∧ (∀ k, k < i → (l.getD k default).hi < r) ∧ (∀ k, i ≤ k → k < l.length → r ≤ (l.getD k default).hi)) ∧ Below w.heap.size w w' := by
  have HF : Hid (∀ w' i, Below w.heap.size w w' → i < l.length → _) := fun w' i hb hi => reaching1_any l r i B a cap w' (hc.below hb) hi hl
  have HM := Hid.mk' hmono
  clear hc hmono
  go_enter Tryd.func62, Tryd.ntmps62
  go_wp2
  go_loopw [5, 6] (fun x y wr => ∃ i j : Nat, x = .int .i64 i ∧ y = .int .i64 j ∧ i ≤ j ∧ j ≤ l.length ∧ Hid (∀ k, k < i → (l.getD k default).hi < r) ∧ Hid (∀ k, j ≤ k → k < l.length → r ≤ (l.getD k default).hi) ∧ Below w.heap.size w wr) (fun x y _ => (intOf y).toNat - (intOf x).toNat)
  case atStart => exact ⟨0, l.length, rfl, rfl, Nat.zero_le _, Nat.le_refl _, fun k hk => by omega, fun k h1 h2 => by omega, Below.refl _ _⟩
  case round =>
    obtain ⟨i, j, rfl, rfl, hij, hj, h1, h2, hb⟩ := hrel
    by_cases hlt : i < j
    · obtain ⟨h, hh⟩ : ∃ h : Nat, ((i : Int) + j) / 2 = h := ⟨(i + j) / 2, by omega⟩
      have hh1 : i ≤ h := by omega
      have hh2 : h < j := by omega
      have HC := Hid.mk' (HF.out wr h hb (by omega))
      cases hp : decide (r ≤ (l.getD h default).hi)
      · rw [hp] at HC
        have hq : (l.getD h default).hi < r := by simpa using hp
        have h1' : Hid (∀ k, k < h + 1 → (l.getD k default).hi < r) := fun k hk => Int.lt_of_le_of_lt (HM.out k h (by omega) (by omega)) hq
        clear hp hq
        go_wp2_with fail
        refine HC.out.mono ?_
        rintro e w1 ⟨rfl, hb1⟩
        go_wp2
        go_roundw
        case rel => exact ⟨h + 1, j, by go_num, rfl, by omega, hj, h1', h2, hb.trans (hb1.mono hb.size)⟩
        case measure => simp [intOf]; omega
      · rw [hp] at HC
        have hq : r ≤ (l.getD h default).hi := by simpa using hp
        have h2' : Hid (∀ k, h ≤ k → k < l.length → r ≤ (l.getD k default).hi) := fun k hk hkl => Int.le_trans hq (HM.out h k hk hkl)
        clear hp hq
        go_wp2_with fail
        refine HC.out.mono ?_
        rintro e w1 ⟨rfl, hb1⟩
        go_wp2
        go_roundw
        case rel => exact ⟨i, h, rfl, rfl, hh1, by omega, h1, h2', hb.trans (hb1.mono hb.size)⟩
        case measure => simp [intOf]; omega
    · go_wp2
      go_ret
      exact ⟨⟨i, rfl, by omega, h1.out, fun k hk => h2.out k (by omega)⟩, hb⟩
/-- the ends rise -/
def Rises (l : List Rg) : Prop := ∀ i j, i ≤ j → j < l.length → (l.getD i default).hi ≤ (l.getD j default).hi
/-- i is the number of the first range that ends at r or above it -/
def Reach (l : List Rg) (r : Int) (i : Nat) : Prop := i ≤ l.length ∧ (∀ k, k < i → (l.getD k default).hi < r) ∧ (∀ k, i ≤ k → k < l.length → r ≤ (l.getD k default).hi)
set_option maxHeartbeats 1000000 in
theorem reaching_any (v : Value) (l : List Rg) (r : Int) (w : World) (hT : Tab w v l) (hl : l.length ≤ 2147483648) (hm : Rises l) :
    Calls Tryd.prog 56 #[v, .int .i32 r] w fun e w' => (∃ i : Nat, e = .returned (.int .i64 i) ∧ Reach l r i) ∧ Below w.heap.size w w' := by
  obtain ⟨a, cap, rfl, -⟩ := id hT
  have hb0 : Below w.heap.size w ((w.alloc (.cells #[.slice a l.length cap] 22)).alloc (.cells #[.int .i32 r] 21)) := ((Below.refl _ w).alloc (Nat.le_refl _) _).alloc (by simp) _
  have HS := Hid.mk' (search_any l r w.heap.size a cap ((w.alloc (.cells #[.slice a l.length cap] 22)).alloc (.cells #[.int .i32 r] 21)) ⟨by simp, by simp, hT.below hb0⟩ hl hm)
  have HB := Hid.mk' hb0
  clear hT hb0 hm
  go_enter Tryd.func56, Tryd.ntmps56
  go_wp2_with fail
  refine HS.out.mono ?_
  rintro e w1 ⟨⟨i, rfl, hr⟩, hb⟩
  have hR : Hid (Reach l r i) := hr
  clear hr
  go_wp2
  go_ret
  exact ⟨⟨i, rfl, hR.out⟩, HB.out.trans (hb.mono HB.out.size)⟩
/-- what a table says of a rune -/
def find (l : List Rg) (r : Int) : Option Int := (l.find? fun x => decide (x.lo ≤ r) && decide (r ≤ x.hi)).map Rg.val
theorem find_none (l : List Rg) (r : Int) : find l r = none ↔ ∀ k, k < l.length → ¬ ((l.getD k default).lo ≤ r ∧ r ≤ (l.getD k default).hi) := by
  unfold find
  rw [Option.map_eq_none_iff, List.find?_eq_none]
  constructor
  · intro h k hk
    have := h l[k] (List.getElem_mem hk)
    simpa [List.getD, List.getElem?_eq_getElem hk] using this
  · intro h x hx
    obtain ⟨k, hk, rfl⟩ := List.mem_iff_getElem.1 hx
    have := h k hk
    simpa [List.getD, List.getElem?_eq_getElem hk] using this
theorem find_some (l : List Rg) (r : Int) (i : Nat) (hi : i < l.length) (h1 : (l.getD i default).lo ≤ r) (h2 : r ≤ (l.getD i default).hi) (h0 : ∀ k, k < i → ¬ ((l.getD k default).lo ≤ r ∧ r ≤ (l.getD k default).hi)) : find l r = some (l.getD i default).val := by
  unfold find
  have e : l.find? (fun x => decide (x.lo ≤ r) && decide (r ≤ x.hi)) = some (l.getD i default) := by
    rw [List.find?_eq_some_iff_getElem]
    refine ⟨by rw [Bool.and_eq_true, decide_eq_true_eq, decide_eq_true_eq]; exact ⟨h1, h2⟩, i, hi, by simp [List.getD, List.getElem?_eq_getElem hi], fun j hj => ?_⟩
    have h3 := h0 j hj
    have e3 : l.getD j default = l[j] := by simp [List.getD, List.getElem?_eq_getElem (show j < l.length by omega)]
    rw [e3] at h3
    rw [Bool.not_eq_true', Bool.and_eq_false_iff, decide_eq_false_iff_not, decide_eq_false_iff_not]
    omega
  rw [e]; rfl
/-- what Find answers -/
def foundV (o : Option Int) : Value := .tuple #[.int .i64 (o.getD 0), .bool o.isSome]
/-- the ranges rise and do not meet -/
def Apart (l : List Rg) : Prop := ∀ i j, i < j → j < l.length → (l.getD i default).hi < (l.getD j default).lo
set_option maxHeartbeats 1000000 in
theorem find_any (v : Value) (l : List Rg) (r : Int) (w : World) (hT : Tab w v l) (hl : l.length ≤ 2147483648) (hm : Rises l) (ha : Apart l) :
    Calls Tryd.prog 40 #[v, .int .i32 r] w fun e w' => e = .returned (foundV (find l r)) ∧ Below w.heap.size w w' := by
  have HS := Hid.mk' (reaching_any v l r w hT hl hm)
  obtain ⟨a, cap, rfl, hT⟩ := hT
  have HT := Hid.mk' hT
  have HA := Hid.mk' ha
  clear hT hm ha
  go_enter Tryd.func40, Tryd.ntmps40
  go_wp2_with fail
  refine HS.out.mono ?_
  rintro e w1 ⟨⟨i, rfl, hi, h1, h2⟩, hb⟩
  have H1 := Hid.mk' h1
  have H2 := Hid.mk' h2
  clear h1 h2
  rcases Nat.lt_or_ge i l.length with hlt | hge
  · obtain ⟨b, off, rfl, hc⟩ := HT.out i hlt
    obtain ⟨d0, d1, d2⟩ := three_of (w := w1) (b := b) (o := off + i * 3) (r := l.getD i default) (fun j hj => by rw [← hc j hj]; exact hb.cell (p := ⟨b, off + i * 3 + j, none⟩) (lt_of_cell (hc 0 (by omega))))
    clear hc
    have hne : ((i : Int) == (l.length : Int)) = false := by simp; omega
    by_cases hlo : (l.getD i default).lo ≤ r
    · have hf : Hid _ := find_some l r i hlt hlo (H2.out i (Nat.le_refl _) hlt) (fun k hk h => by have := H1.out k hk; omega)
      generalize l.getD i default = q at *
      go_wp2
      go_ret2
      exact ⟨by rw [hf.out]; rfl, hb⟩
    · have hf : Hid (find l r = none) := (find_none l r).2 fun k hk h => by
        rcases Nat.lt_or_ge k i with g | g
        · have := H1.out k g; omega
        · rcases Nat.eq_or_lt_of_le g with rfl | g
          · exact hlo h.1
          · have h3 := HA.out i k g hk
            have h4 := H2.out i (Nat.le_refl _) hlt
            omega
      generalize l.getD i default = q at *
      go_wp2
      go_ret2
      exact ⟨by rw [hf.out]; rfl, hb⟩
  · obtain rfl : i = l.length := by omega
    have hf : Hid (find l r = none) := (find_none l r).2 fun k hk h => by have := H1.out k hk; omega
    go_wp2
    go_ret2
    exact ⟨by rw [hf.out]; rfl, hb⟩
end Go.Proofs.YtcklfcoobccgcaaDoor

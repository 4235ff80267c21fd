/-
  What is proved here: what Class answers, told with the world that it leaves; what cmp.Compare answers, and the function by which Order sorts.
-/
import Derived.Test.YtoceaielclomcaaRRGreatDoorS6
import Derived.Test.YtoceaielclomcaaRRGreatDoorA6
namespace Go.Proofs.YtoceaielclomcaaRRGreatDoor
open Go.RowKit Go.Sort

/-- memory below B is as it was; no draw is taken back -/
structure Bl (B : Nat) (w w' : World) : Prop where
  below : Below B w w'
  drawn : w.drawn ≤ w'.drawn
theorem Bl.refl (B : Nat) (w : World) : Bl B w w := ⟨Below.refl B w, Nat.le_refl _⟩
theorem Bl.trans {B : Nat} {a b c : World} (h : Bl B a b) (k : Bl B b c) : Bl B a c := ⟨h.below.trans k.below, Nat.le_trans h.drawn k.drawn⟩
theorem Bl.mono {B B' : Nat} {a b : World} (h : Bl B a b) (hB : B' ≤ B) : Bl B' a b := ⟨h.below.mono hB, h.drawn⟩
theorem Bl.size {B : Nat} {a b : World} (h : Bl B a b) : a.heap.size ≤ b.heap.size := h.below.size
theorem Bl.cell {B : Nat} {a b : World} (h : Bl B a b) {p : Addr} (hp : p.block < B) : b.cell? p = a.cell? p := h.below.cell hp
theorem Bl.alloc {B : Nat} {a b : World} (h : Bl B a b) (hB : B ≤ b.heap.size) (o : Obj) : Bl B a (b.alloc o) := ⟨h.below.alloc hB o, h.drawn⟩
theorem Bl.drew {B : Nat} {a b : World} (h : Bl B a b) : Bl B a b.drew := ⟨h.below.drew, Nat.le_succ_of_le h.drawn⟩
theorem Bl.grow {a b : World} (h : Bl a.heap.size a b) : ∃ q os, b = Go.Sort.grow (a.drewN q) os := by
  refine ⟨b.drawn - a.drawn, b.heap.extract a.heap.size b.heap.size, ?_⟩
  obtain ⟨⟨h1, h2, h3, h4, h5⟩, h6⟩ := h
  have hh : b.heap = a.heap ++ b.heap.extract a.heap.size b.heap.size := by
    apply Array.ext
    · simp; omega
    · intro i hi1 hi2
      by_cases g : i < a.heap.size
      · rw [Array.getElem_append_left g]
        have := h5 i g
        rw [Array.getElem?_eq_getElem hi1, Array.getElem?_eq_getElem g] at this
        exact Option.some.inj this
      · rw [Array.getElem_append_right (by omega), Array.getElem_extract]
        congr 1
        omega
  obtain ⟨heap, tape, drawn, os, output⟩ := b
  obtain ⟨heap', tape', drawn', os', output'⟩ := a
  simp only [] at h1 h2 h3 h6 hh
  subst h1 h2 h3
  simp only [Go.Sort.grow, World.drewN]
  rw [show drawn' + (drawn - drawn') = drawn by omega]
  congr 1
set_option maxHeartbeats 1000000 in
theorem reaching1_g (l : List Rg) (r : Int) (i B : Nat) (a : Option Addr) (cap : Nat) (w : World) (hc : Caught w B a cap l r) (hi : i < l.length) (_hl : l.length ≤ 2147483648) :
    Calls Tryz.prog 72 #[.int .i64 i, .pointer (some ⟨B, 0, none⟩), .pointer (some ⟨B + 1, 0, none⟩)] w fun e w' => e = .returned (.bool (decide (r ≤ (l.getD i default).hi))) ∧ Bl w.heap.size w w' := by
  obtain ⟨c0, c1, a', cap', e, ht⟩ := hc
  obtain ⟨rfl, rfl⟩ : a = a' ∧ cap = cap' := by simpa using e
  obtain ⟨b, off, rfl, hc⟩ := ht i hi
  obtain ⟨-, d1, -⟩ := three_of (o := off + i * 3) hc
  generalize l.getD i default = q at *
  clear ht hc e
  go_enter Tryz.func72, Tryz.ntmps72
  go_wp2
  go_region
  go_wp2
  go_ret
  exact ⟨rfl, (Bl.refl _ _).drew⟩
set_option maxHeartbeats 1000000 in
theorem search_g (l : List Rg) (r : Int) (B : Nat) (a : Option Addr) (cap : Nat) (w : World) (hc : Caught w B a cap l r) (hl : l.length ≤ 2147483648) (hmono : ∀ i j, i ≤ j → j < l.length → (l.getD i default).hi ≤ (l.getD j default).hi) :
    Calls Tryz.prog 71 #[.int .i64 l.length, .func (.func 72) #[] #[.pointer (some ⟨B, 0, none⟩), .pointer (some ⟨B + 1, 0, none⟩)]] w fun e w' => (∃ i : Nat, e = .returned (.int .i64 i) ∧ i ≤ l.length ∧ (∀ k, k < i → (l.getD k default).hi < r) ∧ (∀ k, i ≤ k → k < l.length → r ≤ (l.getD k default).hi)) ∧ Bl w.heap.size w w' := by
  have HF : Hid (∀ w' i, Bl w.heap.size w w' → i < l.length → _) := fun w' i hb hi => reaching1_g l r i B a cap w' (hc.below hb.below) hi hl
  have HM := Hid.mk' hmono
  clear hc hmono
  go_enter Tryz.func71, Tryz.ntmps71
  go_wp2
  go_loopw [5, 6] (fun x y wr => ∃ i j : Nat, x = .int .i64 i ∧ y = .int .i64 j ∧ i ≤ j ∧ j ≤ l.length ∧ Hid (∀ k, k < i → (l.getD k default).hi < r) ∧ Hid (∀ k, j ≤ k → k < l.length → r ≤ (l.getD k default).hi) ∧ Bl w.heap.size w wr) (fun x y _ => (intOf y).toNat - (intOf x).toNat)
  case atStart => exact ⟨0, l.length, rfl, rfl, Nat.zero_le _, Nat.le_refl _, fun k hk => by omega, fun k h1 h2 => by omega, Bl.refl _ _⟩
  case round =>
    obtain ⟨i, j, rfl, rfl, hij, hj, h1, h2, hb⟩ := hrel
    by_cases hlt : i < j
    · obtain ⟨h, hh⟩ : ∃ h : Nat, ((i : Int) + j) / 2 = h := ⟨(i + j) / 2, by omega⟩
      have hh1 : i ≤ h := by omega
      have hh2 : h < j := by omega
      have HC := Hid.mk' (HF.out wr h hb (by omega))
      cases hp : decide (r ≤ (l.getD h default).hi)
      · rw [hp] at HC
        have hq : (l.getD h default).hi < r := by simpa using hp
        have h1' : Hid (∀ k, k < h + 1 → (l.getD k default).hi < r) := fun k hk => Int.lt_of_le_of_lt (HM.out k h (by omega) (by omega)) hq
        clear hp hq
        go_wp2_with fail
        refine HC.out.mono ?_
        rintro e w1 ⟨rfl, hb1⟩
        go_wp2
        go_roundw
        case rel => exact ⟨h + 1, j, by go_num, rfl, by omega, hj, h1', h2, hb.trans (hb1.mono hb.size)⟩
        case measure => simp [intOf]; omega
      · rw [hp] at HC
        have hq : r ≤ (l.getD h default).hi := by simpa using hp
        have h2' : Hid (∀ k, h ≤ k → k < l.length → r ≤ (l.getD k default).hi) := fun k hk hkl => Int.le_trans hq (HM.out h k hk hkl)
        clear hp hq
        go_wp2_with fail
        refine HC.out.mono ?_
        rintro e w1 ⟨rfl, hb1⟩
        go_wp2
        go_roundw
        case rel => exact ⟨i, h, rfl, rfl, hh1, by omega, h1, h2', hb.trans (hb1.mono hb.size)⟩
        case measure => simp [intOf]; omega
    · go_wp2
      go_ret
      exact ⟨⟨i, rfl, by omega, h1.out, fun k hk => h2.out k (by omega)⟩, hb⟩
set_option maxHeartbeats 1000000 in
theorem reaching_g (v : Value) (l : List Rg) (r : Int) (w : World) (hT : Tab w v l) (hl : l.length ≤ 2147483648) (hm : Rises l) :
    Calls Tryz.prog 41 #[v, .int .i32 r] w fun e w' => (∃ i : Nat, e = .returned (.int .i64 i) ∧ Reach l r i) ∧ Bl w.heap.size w w' := by
  obtain ⟨a, cap, rfl, -⟩ := id hT
  have hb0 : Bl w.heap.size w ((w.alloc (.cells #[.slice a l.length cap] 22)).alloc (.cells #[.int .i32 r] 21)) := ((Bl.refl _ w).alloc (Nat.le_refl _) _).alloc (by simp) _
  have HS := Hid.mk' (search_g l r w.heap.size a cap ((w.alloc (.cells #[.slice a l.length cap] 22)).alloc (.cells #[.int .i32 r] 21)) ⟨by simp, by simp, hT.below hb0.below⟩ hl hm)
  have HB := Hid.mk' hb0
  clear hT hb0 hm
  go_enter Tryz.func41, Tryz.ntmps41
  go_wp2_with fail
  refine HS.out.mono ?_
  rintro e w1 ⟨⟨i, rfl, hr⟩, hb⟩
  have hR : Hid (Reach l r i) := hr
  clear hr
  go_wp2
  go_ret
  exact ⟨⟨i, rfl, hR.out⟩, HB.out.trans (hb.mono HB.out.size)⟩
set_option maxHeartbeats 1000000 in
theorem find_g (v : Value) (l : List Rg) (r : Int) (w : World) (hT : Tab w v l) (hl : l.length ≤ 2147483648) (hm : Rises l) (ha : Apart l) :
    Calls Tryz.prog 18 #[v, .int .i32 r] w fun e w' => e = .returned (foundV (find l r)) ∧ Bl w.heap.size w w' := by
  have HS := Hid.mk' (reaching_g v l r w hT hl hm)
  obtain ⟨a, cap, rfl, hT⟩ := hT
  have HT := Hid.mk' hT
  have HA := Hid.mk' ha
  clear hT hm ha
  go_enter Tryz.func18, Tryz.ntmps18
  go_wp2_with fail
  refine HS.out.mono ?_
  rintro e w1 ⟨⟨i, rfl, hi, h1, h2⟩, hb⟩
  have H1 := Hid.mk' h1
  have H2 := Hid.mk' h2
  clear h1 h2
  rcases Nat.lt_or_ge i l.length with hlt | hge
  · obtain ⟨b, off, rfl, hc⟩ := HT.out i hlt
    obtain ⟨d0, d1, d2⟩ := three_of (w := w1) (b := b) (o := off + i * 3) (r := l.getD i default) (fun j hj => by rw [← hc j hj]; exact hb.cell (p := ⟨b, off + i * 3 + j, none⟩) (lt_of_cell (hc 0 (by omega))))
    clear hc
    have hne : ((i : Int) == (l.length : Int)) = false := by simp; omega
    by_cases hlo : (l.getD i default).lo ≤ r
    · have hf : Hid _ := find_some l r i hlt hlo (H2.out i (Nat.le_refl _) hlt) (fun k hk h => by have := H1.out k hk; omega)
      generalize l.getD i default = q at *
      go_wp2
      go_ret2
      exact ⟨by rw [hf.out]; rfl, hb⟩
    · have hf : Hid (find l r = none) := (find_none l r).2 fun k hk h => by
        rcases Nat.lt_or_ge k i with g | g
        · have := H1.out k g; omega
        · rcases Nat.eq_or_lt_of_le g with rfl | g
          · exact hlo h.1
          · have h3 := HA.out i k g hk
            have h4 := H2.out i (Nat.le_refl _) hlt
            omega
      generalize l.getD i default = q at *
      go_wp2
      go_ret2
      exact ⟨by rw [hf.out]; rfl, hb⟩
  · obtain rfl : i = l.length := by omega
    have hf : Hid (find l r = none) := (find_none l r).2 fun k hk h => by have := H1.out k hk; omega
    go_wp2
    go_ret2
    exact ⟨by rw [hf.out]; rfl, hb⟩
set_option maxHeartbeats 1000000 in
theorem class_g (vr vc ve : Value) (l : List Rg) (r : Int) (w : World) (hT : Tab w vc l) (hl : l.length ≤ 2147483648) (hm : Rises l) (ha : Apart l) :
    Calls Tryz.prog 124 #[.agg #[vr, vc, ve], .int .i32 r] w fun e w' => e = .returned (.int .i64 (classOf l r)) ∧ Bl w.heap.size w w' := by
  have hb0 : Bl w.heap.size w (w.alloc (.cells #[vr, vc, ve] 39)) := (Bl.refl _ w).alloc (Nat.le_refl _) _
  have HF := Hid.mk' (find_g vc l r (w.alloc (.cells #[vr, vc, ve] 39)) (hT.below hb0.below) hl hm ha)
  have HB := Hid.mk' hb0
  unfold foundV at HF
  unfold classOf
  generalize find l r = o at *
  generalize o.getD 0 = o1 at *
  generalize o.isSome = o2 at *
  obtain ⟨a, cap, rfl, -⟩ := hT
  clear hb0 hm ha
  go_enter Tryz.func124, Tryz.ntmps124
  go_wp2_with fail
  refine HF.out.mono ?_
  rintro e w1 ⟨rfl, hb⟩
  go_wp2
  go_ret
  exact ⟨rfl, HB.out.trans (hb.mono HB.out.size)⟩
set_option maxHeartbeats 400000 in
theorem isNaN_any (x : Int) (w : World) : Calls Tryz.prog 154 #[.int .i64 x] w fun e w' => e = .returned (.bool false) ∧ w = w' := by
  go_enter Tryz.func154, Tryz.ntmps154
  go_wp2
  go_ret
  exact ⟨ret_bool (by simp), rfl⟩
/-- what cmp.Compare answers -/
def cmpZ (x y : Int) : Int := if x < y then -1 else if y < x then 1 else 0
set_option maxHeartbeats 400000 in
theorem compare_any (x y : Int) (w : World) : Calls Tryz.prog 134 #[.int .i64 x, .int .i64 y] w fun e w' => e = .returned (.int .i64 (cmpZ x y)) ∧ w = w' := by
  have H : Hid (∀ z W, _) := fun z W => isNaN_any z W
  have hc : (x < y ∧ cmpZ x y = -1) ∨ (y < x ∧ cmpZ x y = 1) ∨ (x = y ∧ cmpZ x y = 0) := by
    unfold cmpZ
    rcases Int.lt_trichotomy x y with h | h | h
    · left; exact ⟨h, if_pos h⟩
    · right; right; subst h; exact ⟨rfl, by simp⟩
    · right; left; exact ⟨h, by rw [if_neg (by omega), if_pos h]⟩
  generalize cmpZ x y = z at *
  rcases hc with ⟨h, rfl⟩ | ⟨h, rfl⟩ | ⟨rfl, rfl⟩
  all_goals
    go_enter Tryz.func134, Tryz.ntmps134
    go_wp2_with fail
    refine (H.out _ _).mono ?_
    rintro e w1 ⟨rfl, rfl⟩
    go_wp2_with fail
    refine (H.out _ _).mono ?_
    rintro e w1 ⟨rfl, rfl⟩
    go_wp2
    go_ret
    exact ⟨rfl, rfl⟩
set_option maxRecDepth 20000 in
set_option maxHeartbeats 2000000 in
theorem orderF_any (B : Nat) (vr vc ve : Value) (l : List Rg) (x y : Int) (w : World) (c0 : w.cell? ⟨B, 0, none⟩ = some vr) (c1 : w.cell? ⟨B, 1, none⟩ = some vc) (c2 : w.cell? ⟨B, 2, none⟩ = some ve) (hT : Tab w vc l) (hl : l.length ≤ 2147483648) (hm : Rises l) (ha : Apart l) :
    Calls Tryz.prog 133 #[.int .i32 x, .int .i32 y, .pointer (some ⟨B, 0, none⟩)] w fun e w' => e = .returned (.int .i64 (cmpZ (classOf l x) (classOf l y))) ∧ ∃ q os, w' = Go.Sort.grow (w.drewN q) os := by
  have HK : Hid (∀ z W, Bl w.heap.size w W → _) := fun z W hb => class_g vr vc ve l z W (hT.below hb.below) hl hm ha
  have HCM : Hid (∀ a b W, _) := fun a b W => compare_any a b W
  have HEE : Hid (∀ W, Bl w.heap.size w W → W.cell? ⟨B, 0, none⟩ = some vr ∧ W.cell? ⟨B, 1, none⟩ = some vc ∧ W.cell? ⟨B, 2, none⟩ = some ve) := fun W hb => ⟨(hb.cell (lt_of_cell c0)).trans c0, (hb.cell (lt_of_cell c1)).trans c1, (hb.cell (lt_of_cell c2)).trans c2⟩
  have HTR : Hid (∀ W W', Bl w.heap.size w W → Bl W.heap.size W W' → Bl w.heap.size w W') := fun W W' h h' => h.trans (h'.mono h.size)
  have hz : Bl w.heap.size w w.drew := (Bl.refl _ _).drew
  clear hT hm ha
  go_enter Tryz.func133, Tryz.ntmps133
  go_wp2
  go_region_held3 (fun w' => w'.cell? ⟨B, 0, none⟩ = some vr ∧ w'.cell? ⟨B, 1, none⟩ = some vc ∧ w'.cell? ⟨B, 2, none⟩ = some ve) (first | exact ⟨c0, c1, c2⟩ | exact HEE.out _ (by assumption)) (first
    | (go_at_call 124; refine (HK.out _ _ ?_).mono ?_; assumption; rintro e wS ⟨rfl, hbS⟩; have hzS := HTR.out _ _ (by assumption) hbS)
    | (go_at_call 134; refine (HCM.out _ _ _).mono ?_; rintro e wT ⟨rfl, rfl⟩))
  all_goals
    go_wp2
    go_ret
    refine ⟨rfl, Bl.grow ?_⟩
    assumption
theorem cmpZ_lt (x y : Int) : decide (cmpZ x y < 0) = decide (x < y) := by
  unfold cmpZ
  rw [decide_eq_decide]
  (repeat' split) <;> omega
end Go.Proofs.YtoceaielclomcaaRRGreatDoor

/-
  What is proved here: what the reference's Build answers at any ranges.
-/
import Derived.Test.YthheplgpjhhbmaaDoorC0
import Derived.Test.YthheplgpjhhbmaaDoorP5
namespace Go.Proofs.YthheplgpjhhbmaaDoor
open Go.RowKit

theorem take_ins_lt {t : List Rg} {i k : Nat} {r : Rg} (h1 : i < k) (hk : k < t.length) : (insAt t i r).take (k + 1) ++ [t.getD k default] = (insAt t i r).take (k + 1 + 1) := by
  have hl : k + 1 < (insAt t i r).length := by rw [insAt_len _ _ _ (by omega)]; omega
  rw [List.take_succ_eq_append_getElem hl]
  congr 2
  have e1 : (insAt t i r)[k + 1]? = t[k]? := by
    unfold insAt
    rw [List.getElem?_append_right (by simp; omega)]
    have e : k + 1 - (t.take i).length = (k - i) + 1 := by simp; omega
    rw [e, List.getElem?_cons_succ, List.getElem?_drop]
    congr 1
    omega
  rw [List.getElem?_eq_getElem hl, List.getElem?_eq_getElem hk] at e1
  rw [getD_eq hk]
  exact (Option.some.inj e1).symm
theorem take_ins_at {t : List Rg} {i : Nat} {r : Rg} (h : i < t.length) : t.take i ++ [r] ++ [t.getD i default] = (insAt t i r).take (i + 1 + 1) := by
  unfold insAt
  rw [drop_cons3 h]
  have h3 : i + 1 + 1 = (t.take i ++ [r, t.getD i default]).length := by simp; omega
  have e : t.take i ++ r :: t.getD i default :: t.drop (i + 1) = (t.take i ++ [r, t.getD i default]) ++ t.drop (i + 1) := by simp
  rw [e, h3, List.take_left]; simp
theorem take_ins_all {t : List Rg} {i : Nat} {r : Rg} (h : i ≤ t.length) : (insAt t i r).take (t.length + 1) = insAt t i r := by
  rw [← insAt_len t i r h, List.take_length]
theorem own_weaken {w : World} {B B' : Nat} {e : TypeId} {k n : Nat} {v : Value} {xs : List Value} (h : w.ownsRow B' e k v n xs) (hB : B ≤ B') : w.ownsRow B e k v n xs := by
  refine ⟨h.1, ?_⟩
  rcases h.2 with h1 | ⟨g, cap, cur, h1, h2, h3⟩
  · exact .inl h1
  · exact .inr ⟨g, cap, cur, h1, by omega, h3⟩
theorem buildM_nil : buildM [] = ([], 0, 0) := rfl
set_option maxRecDepth 20000 in
set_option maxHeartbeats 2000000 in
theorem refBuild_nil (a : Option Addr) (cap : Nat) (w : World) :
    Calls Tryd.prog 11 #[.slice a 0 cap] w fun e w' => e = .returned (.tuple #[.slice none 0 0, .int .i64 0, .int .i64 0]) ∧ w = w' := by
  go_enter Tryd.func11, Tryd.ntmps11
  go_wp2
  go_loop [5] (fun x => x = .int .i64 0) (fun _ => 0)
  case atStart => rfl
  case round =>
    subst hrel
    go_wp2
    go_loop [6] (fun x => x = .int .i64 0) (fun _ => 0)
    case atStart => rfl
    case round =>
      subst hrel
      go_wp2
      go_loop [8, 9] (fun y x => y = .slice none 0 0 ∧ x = .int .i64 0) (fun _ _ => 0)
      case atStart => exact ⟨rfl, rfl⟩
      case round =>
        obtain ⟨rfl, rfl⟩ := hrel
        go_wp2
        go_ret3
        exact ⟨rfl, rfl⟩
set_option maxRecDepth 20000 in
set_option maxHeartbeats 3000000 in
theorem refBuild_any (b off cap : Nat) (l : List Rg) (w : World) (hT : Tab w (.slice (some ⟨b, off, none⟩) l.length cap) l) (hl : l.length ≤ 60) :
    Calls Tryd.prog 11 #[.slice (some ⟨b, off, none⟩) l.length cap] w fun e w' => ∃ rv, e = .returned (.tuple #[rv, .int .i64 (buildM l).2.1, .int .i64 (buildM l).2.2]) ∧ Tab w' rv (buildM l).1 ∧ Below w.heap.size w w' := by
  obtain ⟨i0, hi, hz0, hz1, hz2⟩ := info_parts Tryd.infoRange
  obtain ⟨a', c', e, hT⟩ := hT
  obtain ⟨rfl, rfl⟩ : some ⟨b, off, none⟩ = a' ∧ cap = c' := by simpa using e
  have HC : Hid (∀ W, Below w.heap.size w W → ∀ k, k < l.length → W.cell? ⟨b, off + k * 3, none⟩ = some (.int .i32 (l.getD k default).lo) ∧ W.cell? ⟨b, off + k * 3 + 1, none⟩ = some (.int .i32 (l.getD k default).hi) ∧ W.cell? ⟨b, off + k * 3 + 2, none⟩ = some (.int .i64 (l.getD k default).val)) := fun W hb k hk => by
    obtain ⟨b', o', e', hc⟩ := hT k hk
    obtain ⟨rfl, rfl⟩ : b = b' ∧ off = o' := by simpa using e'
    exact three_of (fun j hj => by rw [← hc j hj]; exact hb.cell (p := ⟨b, off + k * 3 + j, none⟩) (lt_of_cell (hc 0 (by omega))))
  have HM : Hid (∀ r w', _) := fun r w' => refMay_any r w'
  clear e hT
  go_enter Tryd.func11, Tryd.ntmps11
  go_wp2
  go_loopw [5] (fun x wr => ∃ k : Nat, x = .int .i64 k ∧ k ≤ l.length ∧ Hid (∀ j, j < k → (l.getD j default).may = true) ∧ Below w.heap.size w wr) (fun y _ => l.length - (intOf y).toNat)
  case atStart => exact ⟨0, rfl, Nat.zero_le _, Hid.mk' (fun j hj => by omega), Below.refl _ _⟩
  case round =>
    obtain ⟨k, rfl, hk, hmk, hb⟩ := hrel
    by_cases hlt : k < l.length
    · obtain ⟨d0, d1, d2⟩ := HC.out wr hb k hlt
      have HMk := Hid.mk' (HM.out (l.getD k default) wr)
      unfold Rg.v at HMk
      cases hm : (l.getD k default).may
      · have hbm : Hid (buildM l = ([], k, 4)) := build_bad (by omega) hlt hmk.out hm
        rw [hm] at HMk
        generalize l.getD k default = q at d0 d1 d2 HMk
        clear hm
        go_wp2_with fail
        refine HMk.out.mono ?_
        rintro e w1 ⟨rfl, hb1⟩
        go_wp2
        go_ret3
        exact ⟨_, by rw [hbm.out]; rfl, by rw [hbm.out]; exact Tab.nil _ _ _, hb.trans (hb1.mono hb.size)⟩
      · have hmk' : Hid (∀ j, j < k + 1 → (l.getD j default).may = true) := fun j hj => by
          rcases Nat.lt_or_ge j k with g | g
          · exact hmk.out j g
          · obtain rfl : j = k := by omega
            exact hm
        rw [hm] at HMk
        generalize l.getD k default = q at d0 d1 d2 HMk
        clear hm
        go_wp2_with fail
        refine HMk.out.mono ?_
        rintro e w1 ⟨rfl, hb1⟩
        go_wp2
        go_roundw
        case rel => exact ⟨k + 1, by go_num, by omega, hmk', hb.trans (hb1.mono hb.size)⟩
        case measure => simp [intOf]; omega
    · obtain rfl : k = l.length := by omega
      have HMy : Hid (Mays l) := hmk.out
      obtain ⟨wo, hwo⟩ : ∃ wo, wo = wr := ⟨_, rfl⟩
      subst hwo
      clear hmk hlt
      go_wp2
      go_loopw [6] (fun x wr => ∃ i : Nat, x = .int .i64 i ∧ i ≤ l.length ∧ Hid (Alone l i) ∧ Below w.heap.size w wr) (fun y _ => l.length - (intOf y).toNat)
      case atStart => exact ⟨0, rfl, Nat.zero_le _, Hid.mk' (fun i j h1 h2 => by omega), hb⟩
      case round =>
        obtain ⟨i, rfl, hil, hal, hb2⟩ := hrel
        obtain ⟨w2, hw2⟩ : ∃ w2, w2 = wr := ⟨_, rfl⟩
        subst hw2
        by_cases hlt : i < l.length
        · go_wp2
          go_loopw [7] (fun x wr => ∃ j : Nat, x = .int .i64 j ∧ j ≤ i ∧ Hid (∀ q, q < j → ¬ share (l.getD q default) (l.getD i default)) ∧ Below w.heap.size w wr) (fun y _ => i - (intOf y).toNat)
          case atStart => exact ⟨0, rfl, Nat.zero_le _, Hid.mk' (fun q hq => by omega), hb2⟩
          case round =>
            obtain ⟨j, rfl, hji, hsh, hb3⟩ := hrel
            by_cases hjl : j < i
            · obtain ⟨d0, d1, d2⟩ := HC.out wr hb3 i hlt
              obtain ⟨f0, f1, f2⟩ := HC.out wr hb3 j (by omega)
              have hjl2 : j < l.length := by omega
              have HBt : Hid (share (l.getD j default) (l.getD i default) → buildM l = ([], i, 7)) := fun h => build_there (by omega) HMy.out hlt hal.out hjl h
              have HNx : Hid (¬ share (l.getD j default) (l.getD i default) → ∀ q, q < j + 1 → ¬ share (l.getD q default) (l.getD i default)) := fun h q hq => by
                rcases Nat.lt_or_ge q j with g | g
                · exact hsh.out q g
                · obtain rfl : q = j := by omega
                  exact h
              generalize l.getD i default = x at *
              generalize l.getD j default = y at f0 f1 f2 HBt HNx
              by_cases h1 : y.lo ≤ x.hi
              · have h1' : decide (y.lo ≤ x.hi) = true := by simpa using h1
                by_cases h2 : x.lo ≤ y.hi
                · have hbm := Hid.mk' (HBt.out ⟨h1, h2⟩)
                  have h2' : decide (x.lo ≤ y.hi) = true := by simpa using h2
                  clear h1 h2
                  go_wp2
                  go_region
                  go_wp2
                  go_ret3
                  exact ⟨_, by rw [hbm.out]; rfl, by rw [hbm.out]; exact Tab.nil _ _ _, hb3.drew⟩
                · have hn := Hid.mk' (HNx.out (fun h => h2 h.2))
                  have h2' : decide (x.lo ≤ y.hi) = false := by simpa using h2
                  clear h1 h2
                  go_wp2
                  go_region
                  go_wp2
                  go_roundw
                  case rel => exact ⟨j + 1, by go_num, by omega, hn, hb3.drew⟩
                  case measure => simp [intOf]; omega
              · have hn := Hid.mk' (HNx.out (fun h => h1 h.1))
                have h1' : decide (y.lo ≤ x.hi) = false := by simpa using h1
                clear h1
                go_wp2
                go_region
                go_wp2
                go_roundw
                case rel => exact ⟨j + 1, by go_num, by omega, hn, hb3.drew⟩
                case measure => simp [intOf]; omega
            · obtain rfl : j = i := by omega
              have hal' : Hid (Alone l (j + 1)) := fun p q h1 h2 => by
                rcases Nat.lt_or_ge p j with g | g
                · exact hal.out p q h1 g
                · obtain rfl : p = j := by omega
                  exact hsh.out q h1
              go_wp2
              go_roundw
              case rel => exact ⟨j + 1, by go_num, by omega, hal', hb3⟩
              case measure => simp [intOf]; omega
        · obtain rfl : i = l.length := by omega
          have hbm : Hid (buildM l = (part l l.length, 0, 0)) := build_all (by omega) HMy.out hal.out
          clear hlt hil
          go_wp2
          go_loopw [8, 9] (fun x y wr => ∃ k : Nat, y = .int .i64 k ∧ k ≤ l.length ∧ wr.ownsRow w.heap.size 37 3 x k (cellsOf (part l k)) ∧ Below w.heap.size w wr) (fun _ y _ => l.length - (intOf y).toNat)
          case atStart => exact ⟨0, rfl, Nat.zero_le _, World.ownsRow_nil _ _ _ _, hb2⟩
          case round =>
            obtain ⟨k, rfl, hkl, hout, hb4⟩ := hrel
            obtain ⟨wi, hwi⟩ : ∃ wi, wi = wr := ⟨_, rfl⟩
            subst hwi
            by_cases hlk : k < l.length
            · obtain ⟨p1, p2, p3⟩ := part_place HMy.out hlk hal.out
              have hpl := part_len l k
              have HTo : Hid (Tab wi u8 (part l k)) := Tab.own (by rw [hpl]; exact hout)
              have HP2 := Hid.mk' p2
              have HP3 := Hid.mk' p3
              have HPS : Hid (part l (k + 1) = insAt (part l k) (reachN (part l k) (l.getD k default).lo) (l.getD k default)) := rfl
              have HPL := Hid.mk' hpl
              generalize hpt : part l k = pt at *
              generalize reachN pt (l.getD k default).lo = ix at *
              have HCk : Hid (∀ W, Below w.heap.size w W → _) := fun W hb => HC.out W hb k hlk
              generalize l.getD k default = r at *
              obtain ⟨oa, oc, hov⟩ : ∃ oa oc, u8 = .slice oa k oc := by obtain ⟨oa, oc, e, -⟩ := HTo.out; exact ⟨oa, oc, by rw [e, HPL.out]⟩
              subst hov
              have hs4 := hb4.size
              clear hpl p2 p3 hpt hout
              go_wp2
              go_loopw [10, 11, 12] (fun nx dn kk wr => ∃ (q : Nat) (acc : List Rg), kk = .int .i64 q ∧ q ≤ k ∧ wr.ownsRow wi.heap.size 37 3 nx acc.length (cellsOf acc) ∧ acc.length ≤ q + 1 ∧ ((q ≤ ix ∧ dn = .bool false ∧ Hid (acc = pt.take q)) ∨ (ix < q ∧ dn = .bool true ∧ Hid (acc = (insAt pt ix r).take (q + 1)))) ∧ Below wi.heap.size wi wr) (fun _ _ y _ => k - (intOf y).toNat)
              case atStart => exact ⟨0, [], rfl, Nat.zero_le _, World.ownsRow_nil _ _ _ _, by simp, .inl ⟨Nat.zero_le _, rfl, Hid.mk' rfl⟩, Below.refl _ _⟩
              case round =>
                obtain ⟨q, acc, rfl, hq, hown, hal2, hst, hb5⟩ := hrel
                have hs5 := hb5.size
                have hbw5 := hb4.trans (hb5.mono hb4.size)
                obtain ⟨r0, r1, r2⟩ := HCk.out wr hbw5
                by_cases hqk : q < k
                · obtain ⟨oa', oc', e8, hto⟩ := HTo.out.below hb5
                  obtain ⟨rfl, rfl⟩ : oa = oa' ∧ oc = oc' := by rw [HPL.out] at e8; simpa using e8
                  have hqp : q < pt.length := by rw [HPL.out]; exact hqk
                  obtain ⟨g, o, rfl, hgc⟩ := hto q hqp
                  obtain ⟨y0, y1, y2⟩ := three_of (w := wr) (b := g) (o := o + q * 3) (r := pt.getD q default) hgc
                  have HY : Hid (∀ W, Below wi.heap.size wi W → W.cell? ⟨g, o + q * 3, none⟩ = some (.int .i32 (pt.getD q default).lo) ∧ W.cell? ⟨g, o + q * 3 + 1, none⟩ = some (.int .i32 (pt.getD q default).hi) ∧ W.cell? ⟨g, o + q * 3 + 2, none⟩ = some (.int .i64 (pt.getD q default).val)) := fun W hb => by
                    obtain ⟨a9, c9, e9, h9⟩ := HTo.out.below hb
                    obtain ⟨g9, o9, e10, h10⟩ := h9 q hqp
                    subst e10
                    obtain ⟨rfl, rfl⟩ : g = g9 ∧ o = o9 := by simp at e9; exact e9.1
                    exact three_of h10
                  clear hto hgc e8
                  rcases hst with ⟨hqi, rfl, hac⟩ | ⟨hqi, rfl, hac⟩
                  · rcases Nat.lt_or_ge q ix with hlt | hge
                    · have hle := HP2.out q hlt
                      have hd : decide (r.lo < (pt.getD q default).lo) = false := decide_eq_false (by omega)
                      have hac' : Hid (acc ++ [pt.getD q default] = pt.take (q + 1)) := by show _ = _; rw [take_snoc hqp, hac.out]
                      generalize pt.getD q default = z at *
                      clear hle
                      go_wp2
                      go_region
                      go_wp2_with (at_builtin; refine wpList_append_own _ rfl _ _ 22 rfl wi.heap.size 37 i0 (.agg #[.int .i32 0, .int .i32 0, .int .i64 0]) 3 16 Tryd.underlying22 hi hz0 hz1 hz2 rfl (by decide) _ _ _ rfl (hown.alloc _) ⟨wr.heap.size, 0, none⟩ 1 1 [.int .i32 z.lo, .int .i32 z.hi, .int .i64 z.val] rfl rfl (cells_new _ _ _) (by intro u hu; simp at hu; rcases hu with rfl | rfl | rfl <;> rfl) (by unfold maxLen; omega) (by omega) (by simp; omega) ?_; intro v' w3 hown' hgrow _)
                      have R1 : Below wi.heap.size wi w3 := ((hb5.alloc hs5 _).drew).grown hgrow (by simp; omega) (fun j hj => (hown.lt j hj).1)
                      have R2 : w3.ownsRow wi.heap.size 37 3 v' (acc ++ [z]).length (cellsOf (acc ++ [z])) := by rw [cellsOf_snoc]; simpa [Rg.cells] using hown'
                      clear hown' hgrow hown
                      go_roundw
                      case rel => exact ⟨q + 1, acc ++ [z], by go_num, by omega, R2, by simp; omega, .inl ⟨by omega, rfl, hac'⟩, R1⟩
                      case measure => simp [intOf]; omega
                    · obtain rfl : q = ix := by omega
                      have hgt := HP3.out q (Nat.le_refl _) hqk
                      have hd : decide (r.lo < (pt.getD q default).lo) = true := decide_eq_true hgt
                      have hac' : Hid (acc ++ [r] ++ [pt.getD q default] = (insAt pt q r).take (q + 1 + 1)) := by show _ = _; rw [← take_ins_at hqp, hac.out]
                      generalize pt.getD q default = z at *
                      clear hgt
                      go_wp2
                      go_region
                      go_wp2_with (first | (at_builtin; refine wpList_append_own _ rfl _ _ 22 rfl wi.heap.size 37 i0 (.agg #[.int .i32 0, .int .i32 0, .int .i64 0]) 3 16 Tryd.underlying22 hi hz0 hz1 hz2 rfl (by decide) _ _ _ rfl (hown.alloc _) ⟨wr.heap.size, 0, none⟩ 1 1 [.int .i32 r.lo, .int .i32 r.hi, .int .i64 r.val] rfl rfl (cells_new _ _ _) (by intro u hu; simp at hu; rcases hu with rfl | rfl | rfl <;> rfl) (by unfold maxLen; omega) (by omega) (by simp; omega) ?_; intro v' w3 hown' hgrow _; have R1 : Below wi.heap.size wi w3 := ((hb5.alloc hs5 _).drew).grown hgrow (by simp; omega) (fun j hj => (hown.lt j hj).1); have R2 : w3.ownsRow wi.heap.size 37 3 v' (acc ++ [r]).length (cellsOf (acc ++ [r])) := (by rw [cellsOf_snoc]; simpa [Rg.cells] using hown'); have hs6 := R1.size; have hln : (acc ++ [r]).length = acc.length + 1 := (by simp); obtain ⟨s0, s1, s2⟩ := HY.out w3 R1; clear hown' hgrow hown y0 y1 y2 r0 r1 r2) | (at_builtin; refine wpList_append_own _ rfl _ _ 22 rfl wi.heap.size 37 i0 (.agg #[.int .i32 0, .int .i32 0, .int .i64 0]) 3 16 Tryd.underlying22 hi hz0 hz1 hz2 rfl (by decide) _ _ _ rfl (R2.alloc _) ⟨w3.heap.size, 0, none⟩ 1 1 [.int .i32 z.lo, .int .i32 z.hi, .int .i64 z.val] rfl rfl (cells_new _ _ _) (by intro u hu; simp at hu; rcases hu with rfl | rfl | rfl <;> rfl) (by unfold maxLen; omega) (by omega) (by simp; omega) ?_; intro v'' w4 hown'' hgrow'' _))
                      have R3 : Below wi.heap.size wi w4 := (R1.alloc hs6 _).grown hgrow'' (by simp; omega) (fun j hj => (R2.lt j hj).1)
                      have R4 : w4.ownsRow wi.heap.size 37 3 v'' (acc ++ [r] ++ [z]).length (cellsOf (acc ++ [r] ++ [z])) := by rw [cellsOf_snoc _ z]; simpa [Rg.cells] using hown''
                      clear hown'' hgrow'' R2
                      go_roundw
                      case rel => exact ⟨q + 1, acc ++ [r] ++ [z], by go_num, by omega, R4, by have := hac.out; have h9 : acc.length ≤ q := (by rw [this, List.length_take]; omega); simp; omega, .inr ⟨by omega, rfl, hac'⟩, R3⟩
                      case measure => simp [intOf]; omega
                  · have hac' : Hid (acc ++ [pt.getD q default] = (insAt pt ix r).take (q + 1 + 1)) := by show _ = _; rw [← take_ins_lt hqi hqp, hac.out]
                    have hix : ix ≤ pt.length := by rw [HPL.out]; omega
                    generalize pt.getD q default = z at *
                    go_wp2
                    go_region
                    go_wp2_with (at_builtin; refine wpList_append_own _ rfl _ _ 22 rfl wi.heap.size 37 i0 (.agg #[.int .i32 0, .int .i32 0, .int .i64 0]) 3 16 Tryd.underlying22 hi hz0 hz1 hz2 rfl (by decide) _ _ _ rfl (hown.alloc _) ⟨wr.heap.size, 0, none⟩ 1 1 [.int .i32 z.lo, .int .i32 z.hi, .int .i64 z.val] rfl rfl (cells_new _ _ _) (by intro u hu; simp at hu; rcases hu with rfl | rfl | rfl <;> rfl) (by unfold maxLen; omega) (by omega) (by simp; omega) ?_; intro v' w3 hown' hgrow _)
                    have R1 : Below wi.heap.size wi w3 := ((hb5.alloc hs5 _).drew).grown hgrow (by simp; omega) (fun j hj => (hown.lt j hj).1)
                    have R2 : w3.ownsRow wi.heap.size 37 3 v' (acc ++ [z]).length (cellsOf (acc ++ [z])) := by rw [cellsOf_snoc]; simpa [Rg.cells] using hown'
                    clear hown' hgrow hown
                    go_roundw
                    case rel => exact ⟨q + 1, acc ++ [z], by go_num, by omega, R2, by simp; omega, .inr ⟨by omega, rfl, hac'⟩, R1⟩
                    case measure => simp [intOf]; omega
                · obtain rfl : q = k := by omega
                  rcases hst with ⟨hqi, rfl, hac⟩ | ⟨hqi, rfl, hac⟩
                  · obtain rfl : ix = q := by omega
                    have hfin : Hid (acc ++ [r] = part l (ix + 1)) := by
                      show _ = _
                      rw [HPS.out, hac.out, ← HPL.out, List.take_length]; simp [insAt]
                    have hacl : acc.length = ix := by have h8 := hac.out; rw [h8, List.length_take, HPL.out]; omega
                    have HAL := Hid.mk' hacl
                    clear hacl
                    go_wp2_with (at_builtin; refine wpList_append_own _ rfl _ _ 22 rfl wi.heap.size 37 i0 (.agg #[.int .i32 0, .int .i32 0, .int .i64 0]) 3 16 Tryd.underlying22 hi hz0 hz1 hz2 rfl (by decide) _ _ _ rfl (hown.alloc _) ⟨wr.heap.size, 0, none⟩ 1 1 [.int .i32 r.lo, .int .i32 r.hi, .int .i64 r.val] rfl rfl (cells_new _ _ _) (by intro u hu; simp at hu; rcases hu with rfl | rfl | rfl <;> rfl) (by unfold maxLen; omega) (by omega) (by simp; omega) ?_; intro v' w3 hown' hgrow _)
                    have R1 : Below wi.heap.size wi w3 := (hb5.alloc hs5 _).grown hgrow (by simp; omega) (fun j hj => (hown.lt j hj).1)
                    have R2 : w3.ownsRow wi.heap.size 37 3 v' (acc ++ [r]).length (cellsOf (acc ++ [r])) := by rw [cellsOf_snoc]; simpa [Rg.cells] using hown'
                    clear hown' hgrow hown
                    go_roundw
                    case rel => exact ⟨ix + 1, by go_num, by omega, by rw [← hfin.out]; have h9 : (acc ++ [r]).length = ix + 1 := (by simp [HAL.out]); rw [h9] at R2; exact own_weaken R2 hs4, hb4.trans (R1.mono hb4.size)⟩
                    case measure => simp [intOf]; omega
                  · have hfin : Hid (acc = part l (q + 1)) := by
                      show _ = _
                      rw [HPS.out, hac.out, ← HPL.out, take_ins_all (by rw [HPL.out]; omega)]
                    have HAL : Hid (acc.length = q + 1) := by
                      show _ = _
                      rw [hfin.out, part_len]
                    go_wp2
                    go_roundw
                    case rel => exact ⟨q + 1, by go_num, by omega, by rw [← hfin.out]; have h9 := HAL.out; rw [h9] at hown; exact own_weaken hown hs4, hbw5⟩
                    case measure => simp [intOf]; omega
            · obtain rfl : k = l.length := by omega
              have hpl := part_len l l.length
              have hTo : Hid (Tab wi u8 (part l l.length)) := Tab.own (by rw [hpl]; exact hout)
              obtain ⟨oa, oc, hov⟩ : ∃ oa oc, u8 = .slice oa l.length oc := by obtain ⟨oa, oc, e, -⟩ := hTo.out; exact ⟨oa, oc, by rw [e, hpl]⟩
              subst hov
              clear hpl hout
              go_wp2
              go_ret3
              exact ⟨_, by rw [hbm.out]; rfl, by rw [hbm.out]; exact hTo.out, hb4⟩
end Go.Proofs.YthheplgpjhhbmaaDoor

/-
  What is proved here: what Parse answers at any text.
-/
import Derived.Test.YtlnehhfljjeifaaGreatDoorP4
import Derived.RegionTactic
import Derived.Maps.AppendAt
import Derived.Deep.LoopGhost
import Derived.WalkMore
namespace Go.Proofs.YtlnehhfljjeifaaGreatDoor
open Go.RowKit

def sizeOfV : Value → Nat
  | .string s => s.size
  | _ => 0
theorem empty_of_size {s : ByteArray} (h : s.size = 0) : s = ⟨#[]⟩ := by
  obtain ⟨⟨l⟩⟩ := s
  cases l with
  | nil => rfl
  | cons a t => simp [ByteArray.size] at h
theorem cells_new1 (w : World) (o : Obj) (l : List Value) (t : TypeId) : ∀ j u, l[j]? = some u → ((w.alloc o).alloc (.cells l.toArray t)).cell? ((⟨w.heap.size + 1, 0, none⟩ : Addr).add j) = some u := by
  have := cells_new (w.alloc o) l t
  rwa [World.size_alloc] at this
theorem Tab.nil (w : World) (a : Option Addr) (c : Nat) : Tab w (.slice a 0 c) [] := ⟨a, c, rfl, fun j hj => by simp at hj⟩
theorem Says.mono {w : World} {v : Value} {B B' : Nat} {p : Nat → Addr} {x : Nat × Nat} (h : Says w v B p x) (hB : B' ≤ B) : Says w v B' p x := by
  rcases h with h | ⟨h1, h2⟩
  · exact .inl h
  · exact .inr ⟨h1, h2.weaken hB rfl⟩
theorem flt_new (w : World) (x : Int) (q : Addr) : Flt (w.alloc (.cells #[.int .i64 x, .iface 236 (.pointer (some q))] 69)) (.iface 67 (.pointer (some ⟨w.heap.size, 0, none⟩))) w.heap.size x q :=
  ⟨w.heap.size, Nat.le_refl _, rfl, by simp, by simp⟩
set_option maxRecDepth 20000 in
set_option maxHeartbeats 4000000 in
theorem parse_any (s : ByteArray) (w : World) (p : Nat → Addr) (hg : Gl p w) (hm : Ml w) (hs : s.size ≤ 2147483648) :
    Calls Tryz.prog 10 #[.string s] w fun e w' => ∃ v fv, e = .returned (.tuple #[v, fv]) ∧ Tab w' v (parseM s.data.toList).1 ∧ Says w' fv w.heap.size p (parseM s.data.toList).2 ∧ Below w.heap.size w w' := by
  obtain ⟨i0, hi, hz0, hz1, hz2⟩ := info_parts Tryz.infoRange
  have HG := Hid.mk' hg
  have HM := Hid.mk' hm
  have HO : Hid (∀ (t : ByteArray) w', Below w.heap.size w w' → t.size ≤ 2147483648 → _) := fun t w' hb ht => oneRune_any t w' (hm.below hb) ht
  have HT : Hid (∀ (t : ByteArray) w', Below w.heap.size w w' → t.size ≤ 2147483648 → _) := fun t w' hb ht => fromTo_any t w' (hm.below hb) ht
  have HK : Hid (∀ v (l : List Rg) w', Below w.heap.size w w' → Tab w' v l → l.length ≤ 2147483648 → _) := fun v l w' hb ht hl => check_any v l w' p (hg.below hb) ht hl
  have g2 : Hid (∀ w', Below w.heap.size w w' → _) := fun w' hb => (hg.below hb).g2
  have g5 : Hid (∀ w', Below w.heap.size w w' → _) := fun w' hb => (hg.below hb).g5
  obtain ⟨R, hR⟩ : ∃ R, parseL (s.data.toList.length + 1) s.data.toList 0 [] = R := ⟨_, rfl⟩
  have HP : Hid (parseM s.data.toList = if R.2.2 = 0 then (if (chk R.1).2 = 0 then (R.1, 0, 0) else ([], chk R.1)) else ([], R.2)) := by show _ = _; unfold parseM; rw [hR]
  have HR := Hid.mk' hR
  have HL : s.data.toList.length = s.size := rfl
  generalize parseM s.data.toList = PM at *
  clear hg hm hR
  go_enter Tryz.func10, Tryz.ntmps10
  go_wp2
  go_step3
  go_wp2
  go_step3
  go_wp2
  go_loopg [0, 4, 5] s.size (fun g x y z wr => ∃ (cur : ByteArray) (k : Nat) (acc : List Rg) (f : Nat), x = .string cur ∧ z = .int .i64 k ∧ wr.ownsRow w.heap.size 28 3 y acc.length (cellsOf acc) ∧ Below w.heap.size w wr ∧ k + cur.size ≤ s.size ∧ acc.length + cur.size ≤ s.size ∧ cur.size < f ∧ cur.size ≤ g ∧ Hid (parseL f cur.data.toList k acc = R))
  case atStart => exact ⟨s, 0, [], s.data.toList.length + 1, rfl, rfl, World.ownsRow_nil _ _ _ _, Below.refl _ _, by omega, by simp, by omega, Nat.le_refl _, HR⟩
  case round =>
    obtain ⟨cur, k, acc, f, rfl, rfl, hown, hbel, hk, hacc, hf, hgk, hpl⟩ := hrel
    obtain ⟨f, rfl⟩ : ∃ f', f = f' + 1 := ⟨f - 1, by omega⟩
    by_cases hem : cur.size = 0
    · obtain rfl := empty_of_size hem
      have hres : Hid (R = (acc, 0, 0)) := by show _ = _; rw [← hpl.out]; rfl
      have HC := Hid.mk' (HK.out _ acc wr hbel (Tab.own hown) (by omega))
      have HTb := Hid.mk' (Tab.own hown)
      rcases hown.2 with ⟨rfl, h0⟩ | ⟨g', cap, cu, rfl, -, -⟩
      all_goals
        go_wp2_with fail
        refine HC.out.mono ?_
        rintro e w1 ⟨fv, rfl, hsay, hb1⟩
        have hbw := hbel.trans (hb1.mono hbel.size)
        rcases hsay with ⟨hc0, rfl⟩ | ⟨hc0, hfl⟩
        · have hpm : Hid (PM = (acc, 0, 0)) := by show _ = _; rw [HP.out, hres.out]; simp [hc0]
          have HT2 := Hid.mk' (HTb.out.below hb1)
          clear hc0
          go_wp2
          rw [Exit.noGoto_ret]
          go_ret2
          exact ⟨_, _, rfl, by rw [hpm.out]; exact HT2.out, by rw [hpm.out]; exact .inl ⟨rfl, rfl⟩, hbw⟩
        · have hpm : Hid (PM = ([], chk acc)) := by show _ = _; rw [HP.out, hres.out]; simp [hc0]
          have HF2 : Hid (Says w1 fv w.heap.size p (chk acc)) := Says.mono (.inr ⟨hc0, hfl⟩) hbel.size
          obtain ⟨bb, -, rfl, -, -⟩ := hfl
          clear hc0
          go_wp2
          rw [Exit.noGoto_ret]
          go_ret2
          exact ⟨_, _, rfl, by rw [hpm.out]; exact Tab.nil _ _ _, by rw [hpm.out]; exact HF2.out, hbw⟩
    · obtain ⟨x, y, b, he⟩ : ∃ x y b, Lib.cut cur.data.toList [10] = (x, y, b) := ⟨_, _, _, rfl⟩
      have HC : Hid (Calls Tryz.prog 28 #[.string cur, .string ⟨#[10]⟩] wr fun e w'' => e = .returned (.tuple #[.string ⟨x.toArray⟩, .string ⟨y.toArray⟩, .bool b]) ∧ Below wr.heap.size wr w'') := cut_any cur ⟨#[10]⟩ wr (HM.out.below hbel) (by omega) x y b he
      have hne : Hid (cur.data.toList ≠ []) := fun e => hem (by have h1 : cur.data.toList.length = cur.size := rfl; rw [e] at h1; exact h1.symm)
      have hnem : cur.toList.isEmpty = false := by
        rw [Lib.toList_data]
        cases hd : cur.data.toList with
        | nil => exact absurd hd hne.out
        | cons c tl => rfl
      have hstep : Hid (R = if b = false then ([], k, 2) else match readLine x with | none => ([], k, 5) | some r => parseL f y (k + 1) (acc ++ [r])) := by
        show _ = _
        rw [← hpl.out, parseL, if_neg hne.out, he]
        rfl
      have hlx := (cut_le cur.data.toList [10]).1
      have hly : b = true → y.length < cur.size := fun hb => by have := cut_shorter cur.data.toList 10 (by rw [he]; exact hb); rw [he] at this; exact this
      rw [he] at hlx
      have hlx2 : x.length ≤ cur.size := hlx
      clear hpl he hlx
      cases b
      · have hpm : Hid (PM = ([], k, 2)) := by show _ = _; rw [HP.out, hstep.out]; simp
        clear hly
        go_wp2_with fail
        refine HC.out.mono ?_
        rintro e w1 ⟨rfl, hb1⟩
        have hbw := hbel.trans (hb1.mono hbel.size)
        have hg2 := g2.out w1 hbw
        go_wp2
        go_region
        go_wp2
        rw [Exit.noGoto_ret]
        go_ret2
        exact ⟨_, _, rfl, by rw [hpm.out]; exact Tab.nil _ _ _, by rw [hpm.out]; exact .inr ⟨by simp, (flt_new w1 k (p 2)).weaken hbw.size rfl⟩, (hbw.alloc hbw.size _).drew⟩
      · have hy1 := hly rfl
        clear hly
        simp only [Bool.true_eq_false, if_false] at hstep
        have HOx : Hid (∀ w', Below w.heap.size w w' → _) := fun w' hb => HO.out ⟨x.toArray⟩ w' hb (by simp [ByteArray.size]; omega)
        have HTx : Hid (∀ w', Below w.heap.size w w' → _) := fun w' hb => HT.out ⟨x.toArray⟩ w' hb (by simp [ByteArray.size]; omega)
        have hX : (⟨x.toArray⟩ : ByteArray).data.toList = x := by simp
        rw [hX] at HOx HTx
        have hYs : (⟨y.toArray⟩ : ByteArray).size = y.length := by simp [ByteArray.size]
        have hrd : Hid (readLine x = if (lineOne x).2 = true then some (lineOne x).1 else if (lineTwo x).2 = true then some (lineTwo x).1 else none) := rfl
        obtain ⟨r1, b1, h1⟩ : ∃ r1 b1, lineOne x = (r1, b1) := ⟨_, _, rfl⟩
        obtain ⟨r2, b2, h2⟩ : ∃ r2 b2, lineTwo x = (r2, b2) := ⟨_, _, rfl⟩
        rw [h1] at HOx hrd
        rw [h2] at HTx hrd
        simp only [] at HOx HTx hrd
        rw [hrd.out] at hstep
        unfold Rg.v at HOx HTx
        clear h1 h2 hrd hX HO HT
        generalize (⟨x.toArray⟩ : ByteArray) = X at *
        go_wp2_with fail
        refine HC.out.mono ?_
        rintro e w1 ⟨rfl, hb1⟩
        have hbw := hbel.trans (hb1.mono hbel.size)
        have hown1 := owns_below hown hb1
        clear hown HC
        have HYv : Hid ((⟨y.toArray⟩ : ByteArray).data.toList = y) := by show _ = _; simp
        have hys : (⟨y.toArray⟩ : ByteArray).size = y.length := hYs
        clear hYs
        generalize (⟨y.toArray⟩ : ByteArray) = yv at *
        go_wp2
        obtain ⟨WF, hWF⟩ : ∃ WF, w1.alloc (.cells #[.func (.func 29) #[] #[], .func (.func 30) #[] #[]] 70) = WF := ⟨_, rfl⟩
        have hF : WF.cell? ⟨w1.heap.size, 0, none⟩ = some (.func (.func 29) #[] #[]) ∧ WF.cell? ⟨w1.heap.size, 1, none⟩ = some (.func (.func 30) #[] #[]) := by rw [← hWF]; simp
        have hbF : Below w.heap.size w WF := by rw [← hWF]; exact hbw.alloc hbw.size _
        have hownF : WF.ownsRow w.heap.size 28 3 u4 acc.length (cellsOf acc) := by rw [← hWF]; exact hown1.alloc _
        have hFc := Hid.mk' hF
        rw [hWF]
        clear hWF hown1 hF
        go_loopg [4, 34] 2 (fun g2 yy xx wy => ∃ j : Nat, j + g2 = 2 ∧ yy = u4 ∧ xx = .int .i64 j ∧ Below WF.heap.size WF wy ∧ Hid (0 < j → b1 = false) ∧ Hid (1 < j → b2 = false))
        case atStart => exact ⟨0, rfl, rfl, rfl, Below.refl _ _, Hid.mk' (fun h => by omega), Hid.mk' (fun h => by omega)⟩
        case round =>
          obtain ⟨j, hj, rfl, rfl, hbi, hj1, hj2⟩ := hrel
          have hbwi := hbF.trans (hbi.mono hbF.size)
          have hown2 := owns_below hownF hbi
          have hf0 := (hbi.cell (p := ⟨w1.heap.size, 0, none⟩) (lt_of_cell hFc.out.1)).trans hFc.out.1
          have hf1 := (hbi.cell (p := ⟨w1.heap.size, 1, none⟩) (lt_of_cell hFc.out.2)).trans hFc.out.2
          have hj3 : j = 0 ∨ j = 1 ∨ j = 2 := by omega
          rcases hj3 with rfl | rfl | rfl
          · have HCx := Hid.mk' (HOx.out wr hbwi)
            cases b1
            · go_wp2_with fail
              refine HCx.out.mono ?_
              rintro e w2 ⟨rfl, hb2⟩
              go_wp2
              go_roundg 1
              case measure => omega
              case rel => exact ⟨1, rfl, rfl, rfl, (hbi.trans (hb2.mono hbi.size)).alloc (Nat.le_trans hbi.size hb2.size) _, Hid.mk' (by simp), Hid.mk' (by simp)⟩
            · have hres : Hid (parseL f y (k + 1) (acc ++ [r1]) = R) := by show _ = _; rw [hstep.out]; rfl
              go_wp2_with fail
              refine HCx.out.mono ?_
              rintro e w2 ⟨rfl, hb2⟩
              have hb3 := hbwi.trans (hb2.mono hbwi.size)
              have hown3 := owns_below hown2 hb2
              have hsz3 := hb3.size
              clear hown2 hf0 hf1 hstep HOx HTx
              go_wp2_with (at_builtin; refine wpList_append_own _ rfl _ _ 22 rfl w.heap.size 28 i0 (.agg #[.int .i32 0, .int .i32 0, .int .i64 0]) 3 16 Tryz.underlying22 hi hz0 hz1 hz2 rfl (by decide) _ _ _ rfl ((hown3.alloc _).alloc _) ⟨w2.heap.size + 1, 0, none⟩ 1 1 [.int .i32 r1.lo, .int .i32 r1.hi, .int .i64 r1.val] rfl rfl (cells_new1 _ _ _ _) (by intro u hu; simp at hu; rcases hu with rfl | rfl | rfl <;> rfl) (by unfold maxLen; omega) (by omega) (by simp; omega) ?_; intro v' w3 hown' hgrow _)
              have R1 : Below w.heap.size w w3 := ((hb3.alloc hsz3 _).alloc (by simp; omega) _).grown hgrow (by simp; omega) (fun j hj => (hown3.lt j hj).1)
              have R2 : w3.ownsRow w.heap.size 28 3 v' (acc ++ [r1]).length (cellsOf (acc ++ [r1])) := by rw [cellsOf_snoc]; simpa [Rg.cells] using hown'
              clear hown' hgrow hown3
              go_roundg yv.size
              case measure => omega
              case rel => exact ⟨yv, k + 1, acc ++ [r1], f, rfl, by go_num, R2, R1, by omega, by simp; omega, by omega, Nat.le_refl _, by show _ = _; rw [HYv.out]; exact hres.out⟩
          · have HCx := Hid.mk' (HTx.out wr hbwi)
            obtain rfl : b1 = false := hj1.out (by omega)
            cases b2
            · go_wp2_with fail
              refine HCx.out.mono ?_
              rintro e w2 ⟨rfl, hb2⟩
              go_wp2
              go_roundg 0
              case measure => omega
              case rel => exact ⟨2, rfl, rfl, rfl, (hbi.trans (hb2.mono hbi.size)).alloc (Nat.le_trans hbi.size hb2.size) _, Hid.mk' (by simp), Hid.mk' (by simp)⟩
            · have hres : Hid (parseL f y (k + 1) (acc ++ [r2]) = R) := by show _ = _; rw [hstep.out]; rfl
              go_wp2_with fail
              refine HCx.out.mono ?_
              rintro e w2 ⟨rfl, hb2⟩
              have hb3 := hbwi.trans (hb2.mono hbwi.size)
              have hown3 := owns_below hown2 hb2
              have hsz3 := hb3.size
              clear hown2 hf0 hf1 hstep HOx HTx
              go_wp2_with (at_builtin; refine wpList_append_own _ rfl _ _ 22 rfl w.heap.size 28 i0 (.agg #[.int .i32 0, .int .i32 0, .int .i64 0]) 3 16 Tryz.underlying22 hi hz0 hz1 hz2 rfl (by decide) _ _ _ rfl ((hown3.alloc _).alloc _) ⟨w2.heap.size + 1, 0, none⟩ 1 1 [.int .i32 r2.lo, .int .i32 r2.hi, .int .i64 r2.val] rfl rfl (cells_new1 _ _ _ _) (by intro u hu; simp at hu; rcases hu with rfl | rfl | rfl <;> rfl) (by unfold maxLen; omega) (by omega) (by simp; omega) ?_; intro v' w3 hown' hgrow _)
              have R1 : Below w.heap.size w w3 := ((hb3.alloc hsz3 _).alloc (by simp; omega) _).grown hgrow (by simp; omega) (fun j hj => (hown3.lt j hj).1)
              have R2 : w3.ownsRow w.heap.size 28 3 v' (acc ++ [r2]).length (cellsOf (acc ++ [r2])) := by rw [cellsOf_snoc]; simpa [Rg.cells] using hown'
              clear hown' hgrow hown3
              go_roundg yv.size
              case measure => omega
              case rel => exact ⟨yv, k + 1, acc ++ [r2], f, rfl, by go_num, R2, R1, by omega, by simp; omega, by omega, Nat.le_refl _, by show _ = _; rw [HYv.out]; exact hres.out⟩
          · obtain rfl : b1 = false := hj1.out (by omega)
            obtain rfl : b2 = false := hj2.out (by omega)
            have hpm : Hid (PM = ([], k, 5)) := by show _ = _; rw [HP.out, hstep.out]; simp
            have hg5 := g5.out wr hbwi
            go_wp2
            go_region
            go_wp2
            rw [Exit.noGoto_ret]
            go_ret2
            exact ⟨_, _, rfl, by rw [hpm.out]; exact Tab.nil _ _ _, by rw [hpm.out]; exact .inr ⟨by simp, (flt_new wr k (p 5)).weaken hbwi.size rfl⟩, (hbwi.alloc hbwi.size _).drew⟩
end Go.Proofs.YtlnehhfljjeifaaGreatDoor

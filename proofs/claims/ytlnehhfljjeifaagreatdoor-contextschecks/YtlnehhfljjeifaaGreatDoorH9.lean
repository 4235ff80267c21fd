/-
  What is proved here: what order2Ordered, medianOrdered and choosePivotOrdered of slices answer at runes: a place among those that are handed in (of 8 to 49).
-/
import Derived.Test.YtlnehhfljjeifaaGreatDoorH0
namespace Go.Proofs.YtlnehhfljjeifaaGreatDoor
open Go.RowKit Go.Sort

/-- the row, and a counter in a block of its own -/
structure Cn (w0 : World) (blk off sz : Nat) (d : Array Int) (c s : Nat) (W : World) : Prop where
  len : d.size = sz
  cn : Cnt1 (Value.int .i32) w0 blk off d c s W
theorem Cn.st {w0 W : World} {blk off sz c s : Nat} {d : Array Int} (h : Cn w0 blk off sz d c s W) : St w0 blk off sz d W := ⟨h.len, h.cn.1⟩
theorem Cn.cell {w0 W : World} {blk off sz c s : Nat} {d : Array Int} (h : Cn w0 blk off sz d c s W) : W.cell? ⟨c, 0, none⟩ = some (.int .i64 s) := h.cn.2.1
theorem Cn.frz {w0 W : World} {blk off sz c s : Nat} {d : Array Int} (h : Cn w0 blk off sz d c s W) : W.frozen? ⟨c, 0, none⟩ = false := h.cn.2.2.1
theorem Cn.grown {w0 W : World} {blk off sz c s : Nat} {d : Array Int} (h : Cn w0 blk off sz d c s W) (n : Nat) (os : Array Obj) : Cn w0 blk off sz d c s (grow (W.drewN n) os) := ⟨h.len, h.cn.grown n os⟩
theorem Cn.bump {w0 W : World} {blk off sz c s : Nat} {d : Array Int} (h : Cn w0 blk off sz d c s W) (t : Nat) : Cn w0 blk off sz d c t (W.setCell ⟨c, 0, none⟩ (.int .i64 t)) := ⟨h.len, h.cn.bump t⟩
set_option maxRecDepth 20000 in
set_option maxHeartbeats 8000000 in
theorem order2_any (w0 : World) (blk off cap : Nat) (d0 : Array Int) (R : RA w0 blk off d0) (sz : Nat) (hsz : d0.size = sz) (hs : sz ≤ 1073741824) (a b : Nat) (ha : a < sz) (hb : b < sz) (c s : Nat) (hsm : s ≤ 1000) (d : Array Int) (w : World) (S : Hid (Cn w0 blk off sz d c s w)) :
    Calls Tryz.prog 180 #[.slice (some ⟨blk, off, none⟩) sz cap, .int .i64 a, .int .i64 b, .pointer (some ⟨c, 0, none⟩)] w fun e w' => ∃ x y s' : Nat, e = .returned (.tuple #[.int .i64 x, .int .i64 y]) ∧ ((x = a ∧ y = b) ∨ (x = b ∧ y = a)) ∧ s' ≤ s + 1 ∧ Hid (Cn w0 blk off sz d c s' w') := by
  have mixed : Tryz.prog.follows .mixedOrders = true := by kernel_rfl
  have HR := Hid.mk' R
  have HZ := Hid.mk' hsz
  have _h := hs
  clear _h
  have bz : (b : Int) < (sz : Int) := by omega
  have az : (a : Int) < (sz : Int) := by omega
  clear R hsz
  cases hv : ltInt d[b]! d[a]! with
  | true =>
    have HV := Hid.mk' hv
    clear hv
    go_enter Tryz.func180, Tryz.ntmps180
    obtain ⟨x, y, la, lb, hxy⟩ := S.out.st.sa.comp HR.out HZ.out S.out.len (i := b) (j := a) (by omega) (by omega)
    have hd : decide (x < y) = true := by rw [← hxy.out]; exact HV.out
    have hc := fun n os => less_rune x y (grow (w.drewN n) os)
    clear hxy
    go_wp2_with fail
    go_quiet_grown (first | (go_at_call 164; refine Calls.grown_of (hc _ _)))
    have S2 : Hid (Cn w0 blk off sz d c s (grow (w.drewN nq) osq)) := S.out.grown nq osq
    clear la lb hc
    generalize grow (w.drewN nq) osq = w2 at S2 ⊢
    clear nq osq
    have hxy2 : x < y := of_decide_eq_true hd
    have c0 := S2.out.cell
    have f0 := S2.out.frz
    have HS1 : Hid ((s : Int) + 1 = ((s + 1 : Nat) : Int)) := by show _ = _; omega
    have S3 : Hid (Cn w0 blk off sz d c (s + 1) (w2.setCell ⟨c, 0, none⟩ (.int .i64 ((s + 1 : Nat) : Int)))) := S2.out.bump (s + 1)
    go_wp2
    go_ret2
    refine ⟨b, a, s + 1, rfl, .inr ⟨rfl, rfl⟩, Nat.le_refl _, ?_⟩
    first | exact S3 | (rw [HS1.out]; exact S3) | (rw [← HS1.out] at S3; exact S3)
  | false =>
    have HV := Hid.mk' hv
    clear hv
    go_enter Tryz.func180, Tryz.ntmps180
    obtain ⟨x, y, la, lb, hxy⟩ := S.out.st.sa.comp HR.out HZ.out S.out.len (i := b) (j := a) (by omega) (by omega)
    have hd : decide (x < y) = false := by rw [← hxy.out]; exact HV.out
    have hc := fun n os => less_rune x y (grow (w.drewN n) os)
    clear hxy
    go_wp2_with fail
    go_quiet_grown (first | (go_at_call 164; refine Calls.grown_of (hc _ _)))
    have S2 : Hid (Cn w0 blk off sz d c s (grow (w.drewN nq) osq)) := S.out.grown nq osq
    clear la lb hc
    generalize grow (w.drewN nq) osq = w2 at S2 ⊢
    clear nq osq
    have hxy2 : y ≤ x := by have := of_decide_eq_false hd; omega
    go_wp2
    go_ret2
    exact ⟨a, b, s, rfl, .inl ⟨rfl, rfl⟩, by omega, S2⟩
set_option maxRecDepth 20000 in
set_option maxHeartbeats 8000000 in
theorem median_any (w0 : World) (blk off cap : Nat) (d0 : Array Int) (R : RA w0 blk off d0) (sz : Nat) (hsz : d0.size = sz) (hs : sz ≤ 1073741824) (a b k : Nat) (ha : a < sz) (hb : b < sz) (hk : k < sz) (c s : Nat) (hsm : s ≤ 100) (d : Array Int) (w : World) (S : Hid (Cn w0 blk off sz d c s w)) :
    Calls Tryz.prog 178 #[.slice (some ⟨blk, off, none⟩) sz cap, .int .i64 a, .int .i64 b, .int .i64 k, .pointer (some ⟨c, 0, none⟩)] w fun e w' => ∃ x s' : Nat, e = .returned (.int .i64 x) ∧ (x = a ∨ x = b ∨ x = k) ∧ s' ≤ s + 3 ∧ Hid (Cn w0 blk off sz d c s' w') := by
  have mixed : Tryz.prog.follows .mixedOrders = true := by kernel_rfl
  have HR := Hid.mk' R
  have HZ := Hid.mk' hsz
  have HO := Hid.mk' (fun a b ha hb s hsm w S => order2_any w0 blk off cap d0 R sz hsz hs a b ha hb c s hsm d w S)
  clear R hsz
  go_enter Tryz.func178, Tryz.ntmps178
  go_wp2_with fail
  refine (HO.out a b ha hb s (by omega) w S).mono ?_
  rintro e w1 ⟨x1, y1, s1, rfl, h1, g1, S1⟩
  have hx1 : x1 < sz ∧ y1 < sz := by omega
  go_wp2_with fail
  refine (HO.out y1 k (by omega) hk s1 (by omega) w1 S1).mono ?_
  rintro e w2 ⟨x2, y2, s2, rfl, h2, g2, S2⟩
  have hx2 : x2 < sz ∧ y2 < sz := by omega
  go_wp2_with fail
  refine (HO.out x1 x2 (by omega) (by omega) s2 (by omega) w2 S2).mono ?_
  rintro e w3 ⟨x3, y3, s3, rfl, h3, g3, S3⟩
  have HE : Hid (y3 = a ∨ y3 = b ∨ y3 = k) := by show _ ∨ _; omega
  clear h1 h2 h3 S1 S2 S
  go_wp2
  go_ret
  exact ⟨y3, s3, rfl, HE.out, by omega, S3⟩
set_option maxRecDepth 20000 in
set_option maxHeartbeats 8000000 in
theorem pivot_any (w0 : World) (blk off cap : Nat) (d0 : Array Int) (R : RA w0 blk off d0) (sz : Nat) (hsz : d0.size = sz) (hs : sz ≤ 1073741824) (a b : Nat) (hab : a + 8 ≤ b) (hb : b ≤ sz) (h50 : b - a < 50) (d : Array Int) (w : World) (S : Hid (St w0 blk off sz d w)) :
    Calls Tryz.prog 161 #[.slice (some ⟨blk, off, none⟩) sz cap, .int .i64 a, .int .i64 b] w fun e w' => ∃ p h : Nat, e = .returned (.tuple #[.int .i64 p, .int .i64 h]) ∧ a ≤ p ∧ p < b ∧ h < 2 ∧ Hid (St w0 blk off sz d w') := by
  have mixed : Tryz.prog.follows .mixedOrders = true := by kernel_rfl
  have HR := Hid.mk' R
  have HZ := Hid.mk' hsz
  have HM := Hid.mk' (fun a b k ha hb hk c s hsm w S => median_any w0 blk off cap d0 R sz hsz hs a b k ha hb hk c s hsm d w S)
  have S1 : Hid (Cn w0 blk off sz d w.heap.size 0 (w.alloc (.cells #[.int .i64 0] 3))) := ⟨S.out.len, Cnt1.start S.out.sa _⟩
  obtain ⟨l, hl⟩ : ∃ l : Nat, l = b - a := ⟨_, rfl⟩
  obtain ⟨q, hq⟩ : ∃ q : Nat, q = l / 4 := ⟨_, rfl⟩
  have hlz : (b : Int) - (a : Int) = (l : Int) := by omega
  have hqz : (l : Int) / 4 = (q : Int) := by omega
  have hqt : (l : Int).tdiv 4 = (q : Int) := by rw [Int.tdiv_eq_ediv_of_nonneg (by omega)]; exact hqz
  obtain ⟨i, hi⟩ : ∃ i : Nat, i = a + q := ⟨_, rfl⟩
  obtain ⟨j, hj⟩ : ∃ j : Nat, j = a + q * 2 := ⟨_, rfl⟩
  obtain ⟨k, hk⟩ : ∃ k : Nat, k = a + q * 3 := ⟨_, rfl⟩
  have hiz : (a : Int) + (q : Int) = (i : Int) := by omega
  have hjz : (a : Int) + (q : Int) * 2 = (j : Int) := by omega
  have hkz : (a : Int) + (q : Int) * 3 = (k : Int) := by omega
  have hib : a ≤ i ∧ i < b ∧ a ≤ j ∧ j < b ∧ a ≤ k ∧ k < b := by omega
  have H_hl := Hid.mk' hl
  clear hl
  have H_hq := Hid.mk' hq
  clear hq
  have H_hi := Hid.mk' hi
  clear hi
  have H_hj := Hid.mk' hj
  clear hj
  have H_hk := Hid.mk' hk
  clear hk
  clear R hsz S
  go_enter Tryz.func161, Tryz.ntmps161
  go_wp2_with fail
  refine (HM.out i j k (by omega) (by omega) (by omega) w.heap.size 0 (by omega) _ S1).mono ?_
  rintro e w1 ⟨x, s', rfl, hx, g, S2⟩
  have hxa : a ≤ x ∧ x < b := by omega
  have c0 := S2.out.cell
  have S3 : Hid (St w0 blk off sz d w1) := S2.out.st
  rcases (by omega : s' = 0 ∨ (0 < s' ∧ s' ≤ 3)) with rfl | hs3
  · go_wp2
    go_ret2
    exact ⟨x, 1, rfl, hxa.1, hxa.2, by omega, S3⟩
  · have z0 : ((s' : Int) == 0) = false := by simp; omega
    have z12 : ((s' : Int) == 12) = false := by simp; omega
    go_wp2
    go_ret2
    exact ⟨x, 0, rfl, hxa.1, hxa.2, by omega, S3⟩
end Go.Proofs.YtlnehhfljjeifaaGreatDoor

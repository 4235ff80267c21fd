/-
  What is proved here: slices.breakPatternsOrdered at runes exchanges some of them.
-/
import Derived.Test.YtlnehhfljjeifaaDoorH0
import Derived.Test.YtlnehhfljjeifaaDoorShelfS
namespace Go.Proofs.YtlnehhfljjeifaaDoor
open Go.RowKit Go.Sort

/-- the row, and a word of 64 bits in a block of its own -/
structure Bx (w0 : World) (blk off sz : Nat) (d : Array Int) (c X : Nat) (W : World) : Prop where
  len : d.size = sz
  sa : SA w0 blk off d W
  cell : W.cell? ⟨c, 0, none⟩ = some (.int .u64 X)
  frz : W.frozen? ⟨c, 0, none⟩ = false
  le : w0.heap.size ≤ c
  small : X < 18446744073709551616
set_option maxRecDepth 20000 in
set_option maxHeartbeats 8000000 in
theorem break_any (w0 : World) (blk off cap : Nat) (d0 : Array Int) (R : RA w0 blk off d0) (sz : Nat) (hsz : d0.size = sz) (hs : sz ≤ 1073741824) (a b : Nat) (hab : a + 8 ≤ b) (hb : b ≤ sz) (d : Array Int) (w : World) (S : Hid (St w0 blk off sz d w)) :
    Calls Tryd.prog 66 #[.slice (some ⟨blk, off, none⟩) sz cap, .int .i64 a, .int .i64 b] w fun e w' => e = .returned (.tuple #[]) ∧ ∃ d', Hid (PermIn a b d d') ∧ Hid (St w0 blk off sz d' w') := by
  have mixed : Tryd.prog.follows .mixedOrders = true := by kernel_rfl
  have HR := Hid.mk' R
  have HZ := Hid.mk' hsz
  obtain ⟨L, hL⟩ : ∃ L : Nat, L = b - a := ⟨_, rfl⟩
  have hlz : (b : Int) - (a : Int) = (L : Int) := by omega
  obtain ⟨M, hM⟩ : ∃ M : Nat, M = 1 <<< bitsLen L := ⟨_, rfl⟩
  have hM2 : 1 ≤ M ∧ M ≤ 2 * L := by rw [hM, Nat.one_shiftLeft]; exact ⟨Nat.one_le_two_pow, two_pow_bitsLen_le (by omega)⟩
  have HP2 : Hid (∀ w, Calls Tryd.prog 79 #[.int .i64 L] w fun e w' => e = .returned (.int .u64 (M : Int)) ∧ w' = w) := fun w => by rw [hM]; exact AnyF.nextPowerOfTwo Tryd.laysP47 L (by omega) w
  clear hM
  obtain ⟨q, hq⟩ : ∃ q : Nat, q = L / 4 * 2 := ⟨_, rfl⟩
  have hqz : (L : Int) / 4 * 2 = (q : Int) := by omega
  have hqb : 4 ≤ q ∧ q + 4 ≤ L + 4 ∧ a + q + 1 < b ∧ q + 2 ≤ L := by omega
  have hLb : a + L = b ∧ 8 ≤ L := by omega
  have H_hL := Hid.mk' hL
  clear hL
  have H_hq := Hid.mk' hq
  clear hq
  have hab2 := hLb.2
  have HAB := Hid.mk' hLb
  clear hLb
  have HLE : Hid (w0.heap.size ≤ w.heap.size) := S.out.sa.le
  have HNE : Hid (w.heap.size ≠ blk) := by have h1 := S.out.sa.le; have h2 := HR.out.hblk; show _ ≠ _; omega
  have HB0 : Hid (∃ dk, PermIn a b d dk ∧ Bx w0 blk off sz dk w.heap.size L (w.alloc (.cells #[.int .u64 L] 112))) := ⟨d, permIn_refl _ a b, S.out.len, S.out.sa.alloc _, by simp, by simp, S.out.sa.le, by omega⟩
  clear R hsz S
  go_enter Tryd.func66, Tryd.ntmps66
  go_wp2_with (first | (go_at_call 79; refine (HP2.out _).mono ?_; rintro e w9 ⟨rfl, rfl⟩))
  go_loopw [9] (fun x wr => ∃ t : Nat, x = .int .i64 ((a : Int) + (q : Int) - 1 + (t : Int)) ∧ t ≤ 3 ∧ ∃ X : Nat, Hid (∃ dk, PermIn a b d dk ∧ Bx w0 blk off sz dk w.heap.size X wr)) (fun x _ => (a + q + 2 - (intOf x).toNat))
  case atStart => exact ⟨0, by congr 1; omega, by omega, L, HB0⟩
  case round =>
    clear HB0
    obtain ⟨t, rfl, ht, X, hB⟩ := hrel
    by_cases ht3 : t < 3
    · obtain ⟨dk, HP, S1⟩ : ∃ dk, Hid (PermIn a b d dk) ∧ Hid (Bx w0 blk off sz dk w.heap.size X wr) := hB.out
      clear hB
      obtain ⟨X', hX'⟩ : ∃ X', X' = xorNextN X := ⟨_, rfl⟩
      have lX : X' < 18446744073709551616 := by rw [hX']; exact xorNextN_lt X S1.out.small
      obtain ⟨O, hO⟩ : ∃ O : Nat, O = X' &&& (M - 1) := ⟨_, rfl⟩
      have lO : O ≤ M - 1 := by rw [hO]; exact Nat.and_le_right
      have eAnd : bits .and .u64 (X' : Int) ((M : Int) - 1) = (O : Int) := by rw [show ((M : Int) - 1) = ((M - 1 : Nat) : Int) by omega, bits_and_u64_nat _ _ lX (by omega), hO]
      have hNext : Hid (Calls Tryd.prog 80 #[.pointer (some ⟨w.heap.size, 0, none⟩)] wr fun e w' => e = .returned (.int .u64 (X' : Int)) ∧ w' = (wr.setCell ⟨w.heap.size, 0, none⟩ (.int .u64 (X' : Int))).drewN 3) := by show Calls _ _ _ _ _; rw [hX']; exact AnyF.xorshift_Next Tryd.laysP48 _ _ X S1.out.small wr S1.out.cell S1.out.frz
      have S2 : Hid (St w0 blk off sz dk ((wr.setCell ⟨w.heap.size, 0, none⟩ (.int .u64 (X' : Int))).drewN 3) ∧ ((wr.setCell ⟨w.heap.size, 0, none⟩ (.int .u64 (X' : Int))).drewN 3).cell? ⟨w.heap.size, 0, none⟩ = some (.int .u64 (X' : Int)) ∧ ((wr.setCell ⟨w.heap.size, 0, none⟩ (.int .u64 (X' : Int))).drewN 3).frozen? ⟨w.heap.size, 0, none⟩ = false) := ⟨⟨S1.out.len, SW.drewN (SW.setCell_new S1.out.sa w.heap.size 0 _ HLE.out) 3⟩, by rw [World.cell?_drewN]; exact World.cell?_setCell_same _ _ _ S1.out.cell, by rw [World.frozen?_drewN]; simpa using S1.out.frz⟩
      generalize (wr.setCell ⟨w.heap.size, 0, none⟩ (.int .u64 (X' : Int))).drewN 3 = w2 at hNext S2
      clear S1 hX' hO
      obtain ⟨k, hk⟩ : ∃ k : Nat, k = a + q - 1 + t := ⟨_, rfl⟩
      have rk : IntKind.i64.wrap ((a : Int) + (q : Int) - 1 + (t : Int)) = (a : Int) + (q : Int) - 1 + (t : Int) := by rw [IntKind.wrap_i64]; omega
      have pk : (0 : Int) ≤ (a : Int) + (q : Int) - 1 + (t : Int) := by omega
      have bk : (a : Int) + (q : Int) - 1 + (t : Int) < (sz : Int) := by omega
      have ek : ((a : Int) + (q : Int) - 1 + (t : Int)).toNat = k := by omega
      have lk : k < sz ∧ a ≤ k ∧ k < b := by omega
      have H_hk := Hid.mk' hk
      clear hk
      have dle : decide ((a : Int) + (q : Int) - 1 + (t : Int) ≤ (a : Int) + (q : Int) + 1) = true := by simp; omega
      by_cases hLO : L ≤ O
      · have hLOz : decide ((L : Int) ≤ (O : Int)) = true := by simp; omega
        obtain ⟨j, hj⟩ : ∃ j : Nat, j = a + (O - L) := ⟨_, rfl⟩
        have hAB := HAB.out
        have rj : IntKind.i64.wrap ((a : Int) + ((O : Int) - (L : Int))) = (a : Int) + ((O : Int) - (L : Int)) := by rw [IntKind.wrap_i64]; omega
        have pj : (0 : Int) ≤ (a : Int) + ((O : Int) - (L : Int)) := by omega
        have bj : (a : Int) + ((O : Int) - (L : Int)) < (sz : Int) := by omega
        have ej : ((a : Int) + ((O : Int) - (L : Int))).toNat = j := by omega
        have lj : j < sz ∧ a ≤ j ∧ j < b := by omega
        clear hAB
        have H_hj := Hid.mk' hj
        clear hj
        obtain ⟨x1, y1, u1, ca, cb, cc, fa, fb, S3⟩ := S2.out.1.sa.exch HR.out HZ.out S2.out.1.len (i := k) (j := j) (by omega) (by omega)
        go_wp2_with (first | (go_at_call 80; refine hNext.out.mono ?_; rintro e w9 ⟨rfl, hw9⟩; obtain rfl : w2 = w9 := hw9.symm))
        go_region
        have k1 := box_kept_swap1 (W := w2) (blk := blk) HNE.out S2.out.2.1 S2.out.2.2 (off + k) (off + j) (.int .i32 y1) (.int .i32 x1)
        have HB : Hid (∃ dk, PermIn a b d dk ∧ Bx w0 blk off sz dk w.heap.size X' ((w2.setCell ⟨blk, off + k, none⟩ (.int .i32 y1)).setCell ⟨blk, off + j, none⟩ (.int .i32 x1)).drew) := ⟨_, permIn_trans _ _ _ a b HP.out (swp_permIn _ a b k j (by omega) (by omega) (by omega) (by omega) (by have := S2.out.1.len; omega)), S3.out.len, S3.out.sa, k1.1, k1.2, HLE.out, lX⟩
        generalize ((w2.setCell ⟨blk, off + k, none⟩ (.int .i32 y1)).setCell ⟨blk, off + j, none⟩ (.int .i32 x1)).drew = w3 at HB ⊢
        clear ca cb cc fa fb k1 S3
        clear rj pj bj ej
        go_wp2
        go_roundw
        case rel => exact ⟨t + 1, by go_num, by omega, X', HB⟩
        case measure => simp [intOf]; omega
      · have hLOz : decide ((L : Int) ≤ (O : Int)) = false := by simp; omega
        obtain ⟨j, hj⟩ : ∃ j : Nat, j = a + O := ⟨_, rfl⟩
        have hAB := HAB.out
        have rj : IntKind.i64.wrap ((a : Int) + (O : Int)) = (a : Int) + (O : Int) := by rw [IntKind.wrap_i64]; omega
        have pj : (0 : Int) ≤ (a : Int) + (O : Int) := by omega
        have bj : (a : Int) + (O : Int) < (sz : Int) := by omega
        have ej : ((a : Int) + (O : Int)).toNat = j := by omega
        have lj : j < sz ∧ a ≤ j ∧ j < b := by omega
        clear hAB
        have H_hj := Hid.mk' hj
        clear hj
        obtain ⟨x1, y1, u1, ca, cb, cc, fa, fb, S3⟩ := S2.out.1.sa.exch HR.out HZ.out S2.out.1.len (i := k) (j := j) (by omega) (by omega)
        go_wp2_with (first | (go_at_call 80; refine hNext.out.mono ?_; rintro e w9 ⟨rfl, hw9⟩; obtain rfl : w2 = w9 := hw9.symm))
        go_region
        have k1 := box_kept_swap1 (W := w2) (blk := blk) HNE.out S2.out.2.1 S2.out.2.2 (off + k) (off + j) (.int .i32 y1) (.int .i32 x1)
        have HB : Hid (∃ dk, PermIn a b d dk ∧ Bx w0 blk off sz dk w.heap.size X' ((w2.setCell ⟨blk, off + k, none⟩ (.int .i32 y1)).setCell ⟨blk, off + j, none⟩ (.int .i32 x1)).drew) := ⟨_, permIn_trans _ _ _ a b HP.out (swp_permIn _ a b k j (by omega) (by omega) (by omega) (by omega) (by have := S2.out.1.len; omega)), S3.out.len, S3.out.sa, k1.1, k1.2, HLE.out, lX⟩
        generalize ((w2.setCell ⟨blk, off + k, none⟩ (.int .i32 y1)).setCell ⟨blk, off + j, none⟩ (.int .i32 x1)).drew = w3 at HB ⊢
        clear ca cb cc fa fb k1 S3
        clear rj pj bj ej
        go_wp2
        go_roundw
        case rel => exact ⟨t + 1, by go_num, by omega, X', HB⟩
        case measure => simp [intOf]; omega
    · obtain rfl : t = 3 := by omega
      have dle : decide ((a : Int) + (q : Int) - 1 + ((3 : Nat) : Int) ≤ (a : Int) + (q : Int) + 1) = false := by simp; omega
      obtain ⟨dk, HP, S1⟩ : ∃ dk, Hid (PermIn a b d dk) ∧ Hid (Bx w0 blk off sz dk w.heap.size X wr) := hB.out
      go_wp2
      go_end0
      exact ⟨rfl, dk, HP, S1.out.len, S1.out.sa⟩
end Go.Proofs.YtlnehhfljjeifaaDoor

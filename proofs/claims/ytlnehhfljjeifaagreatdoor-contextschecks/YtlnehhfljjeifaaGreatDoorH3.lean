/-
  What is proved here: slices.heapSortOrdered at runes computes the plain heap sort.
-/
import Derived.Test.YtlnehhfljjeifaaGreatDoorH2
namespace Go.Proofs.YtlnehhfljjeifaaGreatDoor
open Go.RowKit Go.Sort

theorem sift_len (hi F lo : Nat) (d : Array Int) : (siftDown ltInt hi F lo d).size = d.size := size_siftDown ltInt hi F _ lo d (Nat.le_refl _)
set_option maxRecDepth 20000 in
set_option maxHeartbeats 8000000 in
theorem heap_any (w0 : World) (blk off cap : Nat) (d0 : Array Int) (R : RA w0 blk off d0) (sz : Nat) (hsz : d0.size = sz) (hs : sz ≤ 1073741824) (a b : Nat) (hab : a ≤ b) (hb : b ≤ sz) (d : Array Int) (w : World) (S : Hid (St w0 blk off sz d w)) :
    Calls Tryz.prog 159 #[.slice (some ⟨blk, off, none⟩) sz cap, .int .i64 a, .int .i64 b] w fun e w' => e = .returned (.tuple #[]) ∧ St w0 blk off sz (heapSort ltInt d a b) w' := by
  have mixed : Tryz.prog.follows .mixedOrders = true := by kernel_rfl
  have HR := Hid.mk' R
  have HZ := Hid.mk' hsz
  obtain ⟨T, hT⟩ : ∃ T, heapSort ltInt d a b = T := ⟨_, rfl⟩
  obtain ⟨n, hn⟩ : ∃ n : Nat, n = b - a := ⟨_, rfl⟩
  have hnz : (b : Int) - (a : Int) = (n : Int) := by omega
  obtain ⟨m, hm⟩ : ∃ m : Nat, m = (n - 1) / 2 + 1 := ⟨_, rfl⟩
  have H0 : Hid (heapPop ltInt a n (heapBuild ltInt n a m d) = T) := by show _ = _; rw [hm, hn]; exact hT
  have hmz : ((n : Int) - 1).tdiv 2 = (m : Int) - 1 := by have := half_start hab; rw [hnz] at this; rw [this, hm, hn]
  have hmn : m ≤ n + 1 := by omega
  have hfn : a + n ≤ sz := by omega
  have H_hn := Hid.mk' hn
  clear hn
  have H_hm := Hid.mk' hm
  clear hm
  have HS := Hid.mk' (fun lo hi w d => sift_any w0 blk off cap d0 R sz hsz hs lo hi a (d := d) (w := w))
  rw [hT]
  clear R hsz hT
  go_enter Tryz.func159, Tryz.ntmps159
  go_wp2
  go_loopw [9] (fun x wr => ∃ (k : Nat) (dk : Array Int), x = .int .i64 ((k : Int) - 1) ∧ k ≤ m ∧ Hid (heapPop ltInt a n (heapBuild ltInt n a k dk) = T) ∧ Hid (St w0 blk off sz dk wr)) (fun x _ => (intOf x + 1).toNat)
  case atStart => exact ⟨m, d, by first | rfl | rw [hmz], Nat.le_refl _, H0, S⟩
  case round =>
    clear H0 S
    obtain ⟨k, dk, rfl, hk, hI, S⟩ := hrel
    cases k with
    | succ k =>
      have e1 : (((k + 1 : Nat) : Int) - 1) = (k : Int) := by omega
      rw [e1]
      have HN : Hid (heapPop ltInt a n (heapBuild ltInt n a k (siftDown ltInt n a k dk)) = T) := hI
      have HC := Hid.mk' (HS.out k n wr dk (by omega) (by omega) S)
      go_wp2_with fail
      refine HC.out.mono ?_
      rintro e w1 ⟨rfl, h1⟩
      have S2 := Hid.mk' h1
      clear h1
      go_wp2
      go_roundw
      case rel => exact ⟨k, _, by go_num, by omega, HN, S2⟩
      case measure => first | (simp [intOf]; done) | (simp [intOf]; omega)
    | zero =>
      have HN : Hid (heapPop ltInt a n dk = T) := hI
      have e0 : (((0 : Nat) : Int) - 1) = -1 := by omega
      rw [e0]
      clear e0
      go_wp2
      go_loopw [10] (fun x wr => ∃ (k : Nat) (dk : Array Int), x = .int .i64 ((k : Int) - 1) ∧ k ≤ n ∧ Hid (heapPop ltInt a k dk = T) ∧ Hid (St w0 blk off sz dk wr)) (fun x _ => (intOf x + 1).toNat)
      case atStart => exact ⟨n, dk, rfl, Nat.le_refl _, HN, S⟩
      case round =>
        clear HN S hI
        obtain ⟨k, dk, rfl, hk, hI, S⟩ := hrel
        cases k with
        | succ k =>
          have e1 : (((k + 1 : Nat) : Int) - 1) = (k : Int) := by omega
          rw [e1]
          obtain ⟨fk, hfk⟩ : ∃ q, q = a + k := ⟨_, rfl⟩
          have rfk : IntKind.i64.wrap ((a : Int) + (k : Int)) = (a : Int) + (k : Int) := by rw [IntKind.wrap_i64]; omega
          have pfk : (0 : Int) ≤ (a : Int) + (k : Int) := by omega
          have bfk : (a : Int) + (k : Int) < (sz : Int) := by omega
          have efk : ((a : Int) + (k : Int)).toNat = fk := by omega
          have ba : (a : Int) < (sz : Int) := by omega
          have lfk : fk < sz := by omega
          have HN : Hid (heapPop ltInt a k (siftDown ltInt k a 0 (swp dk a fk)) = T) := by rw [hfk]; exact hI
          have H_hfk := Hid.mk' hfk
          clear hfk
          obtain ⟨x1, y1, u1, ca, cb, cc, fa, fb, S3⟩ := S.out.sa.exch HR.out HZ.out S.out.len (i := a) (j := fk) (by omega) (by omega)
          go_wp2
          go_region
          generalize ((wr.setCell ⟨blk, off + a, none⟩ (.int .i32 y1)).setCell ⟨blk, off + fk, none⟩ (.int .i32 x1)).drew = w3 at S3 ⊢
          clear ca cb cc fa fb
          clear rfk pfk bfk efk
          have HC := Hid.mk' (HS.out 0 k w3 (swp dk a fk) (by omega) (by omega) S3)
          go_wp2_with fail
          refine HC.out.mono ?_
          rintro e w1 ⟨rfl, h1⟩
          have S2 := Hid.mk' h1
          clear h1
          go_wp2
          go_roundw
          case rel => exact ⟨k, _, by go_num, by omega, HN, S2⟩
          case measure => first | (simp [intOf]; done) | (simp [intOf]; omega)
        | zero =>
          have HX : Hid (dk = T) := hI
          have e0 : (((0 : Nat) : Int) - 1) = -1 := by omega
          rw [e0]
          clear e0
          go_wp2
          go_end0
          exact ⟨rfl, by rw [← HX.out]; exact S.out⟩
end Go.Proofs.YtlnehhfljjeifaaGreatDoor

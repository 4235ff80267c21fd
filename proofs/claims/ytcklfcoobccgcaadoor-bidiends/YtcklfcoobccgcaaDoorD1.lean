/-
  What is proved here: directions as sets of bits; slices.IndexFunc and ContainsFunc at such sets, whatever function is handed in, and what bidi's functions that are handed in tell.
-/
import Derived.Test.YtcklfcoobccgcaaDoorD0
import Derived.Test.YtcklfcoobccgcaaDoorK1
import Derived.Shelf.RegionOpen
namespace Go.Proofs.YtcklfcoobccgcaaDoor
open Go.RowKit Go.Shelf

/-- the set of one direction -/
def setM (d : Int) : Int := (2 : Int) ^ (d - 1).toNat
theorem dir_cases {d : Int} (h : 1 ≤ d ∧ d ≤ 11) : d = 1 ∨ d = 2 ∨ d = 3 ∨ d = 4 ∨ d = 5 ∨ d = 6 ∨ d = 7 ∨ d = 8 ∨ d = 9 ∨ d = 10 ∨ d = 11 := by omega
theorem bits_right {d : Int} (h : 1 ≤ d ∧ d ≤ 11) : (bits BinOp.and IntKind.u16 (setM d) 22 != 0) = isR d := by
  rcases dir_cases h with rfl | rfl | rfl | rfl | rfl | rfl | rfl | rfl | rfl | rfl | rfl <;> decide +kernel
theorem bits_inR {d : Int} (h : 1 ≤ d ∧ d ≤ 11) : (bits BinOp.and IntKind.u16 (setM d) 2046 == 0) = isL d := by
  rcases dir_cases h with rfl | rfl | rfl | rfl | rfl | rfl | rfl | rfl | rfl | rfl | rfl <;> decide +kernel
theorem bits_inL {d : Int} (h : 1 ≤ d ∧ d ≤ 11) : (bits BinOp.and IntKind.u16 (setM d) 2025 == 0) = isR d := by
  rcases dir_cases h with rfl | rfl | rfl | rfl | rfl | rfl | rfl | rfl | rfl | rfl | rfl <;> decide +kernel
theorem bits_endR {d : Int} (h : 1 ≤ d ∧ d ≤ 11) : (bits BinOp.and IntKind.u16 (setM d) 30 != 0) = decide (2 ≤ d ∧ d ≤ 5) := by
  rcases dir_cases h with rfl | rfl | rfl | rfl | rfl | rfl | rfl | rfl | rfl | rfl | rfl <;> decide +kernel
theorem bits_endL {d : Int} (h : 1 ≤ d ∧ d ≤ 11) : (bits BinOp.and IntKind.u16 (setM d) 9 != 0) = decide (d = 1 ∨ d = 4) := by
  rcases dir_cases h with rfl | rfl | rfl | rfl | rfl | rfl | rfl | rfl | rfl | rfl | rfl <;> decide +kernel
theorem bits_start {d : Int} (h : 1 ≤ d ∧ d ≤ 11) : (bits BinOp.and IntKind.u16 (setM d) 6 != 0) = decide (d = 2 ∨ d = 3) := by
  rcases dir_cases h with rfl | rfl | rfl | rfl | rfl | rfl | rfl | rfl | rfl | rfl | rfl <;> decide +kernel
theorem set_one {d : Int} (h : 1 ≤ d ∧ d ≤ 11) : (setM d == 1) = decide (d = 1) := by
  rcases dir_cases h with rfl | rfl | rfl | rfl | rfl | rfl | rfl | rfl | rfl | rfl | rfl <;> decide +kernel
theorem set_nsm {d : Int} (h : 1 ≤ d ∧ d ≤ 11) : (setM d == 512) = decide (d = 10) := by
  rcases dir_cases h with rfl | rfl | rfl | rfl | rfl | rfl | rfl | rfl | rfl | rfl | rfl <;> decide +kernel
/-- what was seen of EN and AN among the first n -/
def seenV (ds : List Int) (n : Nat) : Int := (if seenB ds 4 n = true then 8 else 0) + (if seenB ds 5 n = true then 16 else 0)
theorem seen_step {ds : List Int} {n : Nat} (h : 1 ≤ ds.getD n 0 ∧ ds.getD n 0 ≤ 11) : bits BinOp.or IntKind.u16 (seenV ds n) (bits BinOp.and IntKind.u16 (setM (ds.getD n 0)) 24) = seenV ds (n + 1) := by
  unfold seenV
  rw [seenB_succ, seenB_succ]
  generalize ds.getD n 0 = d at *
  cases seenB ds 4 n <;> cases seenB ds 5 n <;> rcases dir_cases h with rfl | rfl | rfl | rfl | rfl | rfl | rfl | rfl | rfl | rfl | rfl <;> decide +kernel
theorem seen_both (ds : List Int) (n : Nat) : (seenV ds (n + 1) == 24) = bothB ds n := by
  unfold seenV bothB
  cases seenB ds 4 (n + 1) <;> cases seenB ds 5 (n + 1) <;> decide +kernel
/-- elements of a slice, of one cell each -/
def ElemC (W : World) (a : Option Addr) (n : Nat) (ev : Nat → Value) : Prop := ∀ j, j < n → ∃ b off, a = some ⟨b, off, none⟩ ∧ W.cell? ⟨b, off + j, none⟩ = some (ev j)
theorem ElemC.below {W W' : World} {a : Option Addr} {n : Nat} {ev : Nat → Value} (h : ElemC W a n ev) (hb : Below W.heap.size W W') : ElemC W' a n ev := fun j hj => by
  obtain ⟨b, off, rfl, hc⟩ := h j hj
  exact ⟨b, off, rfl, (hb.cell (p := ⟨b, off + j, none⟩) (lt_of_cell hc)).trans hc⟩
set_option maxHeartbeats 1000000 in
theorem right1_any (x : Int) (w : World) :
    Calls Tryd.prog 34 #[.int .u16 x] w fun e w' => e = .returned (.bool (bits BinOp.and IntKind.u16 x 22 != 0)) ∧ w = w' := by
  go_enter Tryd.func34, Tryd.ntmps34
  go_wp2
  go_ret
  exact ⟨rfl, rfl⟩
set_option maxHeartbeats 1000000 in
theorem outside1_any (x m : Int) (P : Nat) (w : World) (hm : w.cell? ⟨P, 0, none⟩ = some (.int .u16 m)) :
    Calls Tryd.prog 44 #[.int .u16 x, .pointer (some ⟨P, 0, none⟩)] w fun e w' => e = .returned (.bool (bits BinOp.and IntKind.u16 x m == 0)) ∧ w = w' := by
  go_enter Tryd.func44, Tryd.ntmps44
  go_wp2
  go_ret
  exact ⟨rfl, rfl⟩
set_option maxHeartbeats 1000000 in
theorem allSeen1_any (x m s : Int) (Q P : Nat) (hne : P ≠ Q) (w : World) (hm : w.cell? ⟨P, 0, none⟩ = some (.int .u16 m)) (hs : w.cell? ⟨Q, 0, none⟩ = some (.int .u16 s)) (hf : w.frozen? ⟨Q, 0, none⟩ = false) :
    Calls Tryd.prog 45 #[.int .u16 x, .pointer (some ⟨Q, 0, none⟩), .pointer (some ⟨P, 0, none⟩)] w fun e w' => e = .returned (.bool (bits BinOp.or IntKind.u16 s (bits BinOp.and IntKind.u16 x m) == m)) ∧ w.setCell ⟨Q, 0, none⟩ (.int .u16 (bits BinOp.or IntKind.u16 s (bits BinOp.and IntKind.u16 x m))) = w' := by
  go_enter Tryd.func45, Tryd.ntmps45
  go_wp2
  go_ret
  exact ⟨rfl, rfl⟩
set_option maxRecDepth 20000 in
set_option maxHeartbeats 2000000 in
theorem indexS_any (F : Nat) (lb : Array Value) (g : Nat → Bool) (I : Nat → World → Prop) (a : Option Addr) (n cap : Nat) (x : Nat → Int) (w : World) (hl : n ≤ 2147483648) (h0 : I 0 w) (hR : ∀ k W, I k W → ElemC W a n (fun j => .int .u16 (x j)))
    (eg : ∀ args w, (callFunc F args).run Tryd.prog w = .ok (.enter F args) w) (hs : ∀ k W, k < n → I k W → Calls Tryd.prog F (#[.int .u16 (x k)] ++ lb) W fun e w' => e = .returned (.bool (g k)) ∧ I (k + 1) w') :
    Calls Tryd.prog 43 #[.slice a n cap, .func (.func F) #[] lb] w fun e w' => e = .returned (.int .i64 (idxN n g)) ∧ ∃ k, I k w' := by
  have HC := Hid.mk' hR
  have HP := Hid.mk' hs
  have HS : Hid (∀ k, k < n → (∀ j, j < k → g j = false) → g k = true → idxN n g = k) := fun k hk h1 h2 => idxN_at hk h1 h2
  have HN : Hid ((∀ j, j < n → g j = false) → idxN n g = -1) := fun h => idxN_none h
  have HI0 := Hid.mk' h0
  generalize idxN n g = R at *
  clear hR hs h0
  go_enter Tryd.func43, Tryd.ntmps43
  go_wp2
  go_loopw [8] (fun x wr => ∃ k : Nat, k ≤ n ∧ x = .int .i64 k ∧ Hid (∀ j, j < k → g j = false) ∧ Hid (I k wr)) (fun x _ => n - (intOf x).toNat)
  case atStart => exact ⟨0, Nat.zero_le _, rfl, fun j hj => by omega, HI0⟩
  case round =>
    obtain ⟨k, hk, rfl, HA, hI⟩ := hrel
    by_cases hlt : k < n
    · obtain ⟨b, off, rfl, ck⟩ := HC.out k wr hI.out k hlt
      have HK := Hid.mk' (HP.out k wr hlt hI.out)
      have HX : Hid (g k = false → ∀ j, j < k + 1 → g j = false) := fun e j hj => by
        rcases Nat.lt_or_ge j k with q | q
        · exact HA.out j q
        · obtain rfl : j = k := by omega
          exact e
      have HY : Hid (g k = true → R = k) := fun e => HS.out k hlt HA.out e
      have hklz : (k : Int) < (n : Int) := by omega
      clear HP HC HS HN
      cases hg : g k
      · rw [hg] at HK
        have HE2 := Hid.mk' (HX.out hg)
        clear hg HX HY
        go_wp2_with fail
        refine HK.out.mono ?_
        rintro e w1 ⟨rfl, hI1⟩
        have HI1 := Hid.mk' hI1
        clear hI1
        go_wp2
        go_roundw
        case rel => exact ⟨k + 1, by omega, by go_num, HE2, HI1⟩
        case measure => simp [intOf]; omega
      · rw [hg] at HK
        have HR := Hid.mk' (HY.out hg)
        clear hg HX HY
        go_wp2_with fail
        refine HK.out.mono ?_
        rintro e w1 ⟨rfl, hI1⟩
        have HI1 := Hid.mk' hI1
        clear hI1
        go_wp2
        go_ret
        exact ⟨ret_int HR.out.symm, _, HI1.out⟩
    · obtain rfl : k = n := by omega
      have HR := Hid.mk' (HN.out HA.out)
      clear HP HC HS HN
      go_wp2
      go_ret
      exact ⟨ret_int HR.out.symm, _, hI.out⟩
set_option maxHeartbeats 1000000 in
theorem containsS_any (F : Nat) (lb : Array Value) (g : Nat → Bool) (I : Nat → World → Prop) (a : Option Addr) (n cap : Nat) (x : Nat → Int) (w : World) (hl : n ≤ 2147483648) (h0 : I 0 w) (hR : ∀ k W, I k W → ElemC W a n (fun j => .int .u16 (x j)))
    (eg : ∀ args w, (callFunc F args).run Tryd.prog w = .ok (.enter F args) w) (hs : ∀ k W, k < n → I k W → Calls Tryd.prog F (#[.int .u16 (x k)] ++ lb) W fun e w' => e = .returned (.bool (g k)) ∧ I (k + 1) w') :
    Calls Tryd.prog 33 #[.slice a n cap, .func (.func F) #[] lb] w fun e w' => e = .returned (.bool (anyN n g)) ∧ ∃ k, I k w' := by
  have HI := Hid.mk' (indexS_any F lb g I a n cap x w hl h0 hR eg hs)
  unfold anyN
  have hrg := idxN_range n g
  generalize idxN n g = y at *
  clear hs eg h0 hR
  go_enter Tryd.func33, Tryd.ntmps33
  go_wp2_with fail
  refine HI.out.mono ?_
  rintro e w1 ⟨rfl, hI⟩
  go_wp2
  go_ret
  exact ⟨rfl, hI⟩
set_option maxRecDepth 20000 in
set_option maxHeartbeats 2000000 in
theorem indexL_any (F : Nat) (lb : Array Value) (g : Nat → Bool) (I : Nat → World → Prop) (a : Option Addr) (n cap : Nat) (av : Nat → Option Addr) (nv cv : Nat → Nat) (w : World) (hl : n ≤ 2147483648) (h0 : I 0 w) (hR : ∀ k W, I k W → ElemC W a n (fun j => .slice (av j) (nv j) (cv j)))
    (eg : ∀ args w, (callFunc F args).run Tryd.prog w = .ok (.enter F args) w) (hs : ∀ k W, k < n → I k W → Calls Tryd.prog F (#[.slice (av k) (nv k) (cv k)] ++ lb) W fun e w' => e = .returned (.bool (g k)) ∧ I (k + 1) w') :
    Calls Tryd.prog 35 #[.slice a n cap, .func (.func F) #[] lb] w fun e w' => e = .returned (.int .i64 (idxN n g)) ∧ ∃ k, I k w' := by
  have HC := Hid.mk' hR
  have HP := Hid.mk' hs
  have HS : Hid (∀ k, k < n → (∀ j, j < k → g j = false) → g k = true → idxN n g = k) := fun k hk h1 h2 => idxN_at hk h1 h2
  have HN : Hid ((∀ j, j < n → g j = false) → idxN n g = -1) := fun h => idxN_none h
  have HI0 := Hid.mk' h0
  generalize idxN n g = R at *
  clear hR hs h0
  go_enter Tryd.func35, Tryd.ntmps35
  go_wp2
  go_loopw [8] (fun x wr => ∃ k : Nat, k ≤ n ∧ x = .int .i64 k ∧ Hid (∀ j, j < k → g j = false) ∧ Hid (I k wr)) (fun x _ => n - (intOf x).toNat)
  case atStart => exact ⟨0, Nat.zero_le _, rfl, fun j hj => by omega, HI0⟩
  case round =>
    obtain ⟨k, hk, rfl, HA, hI⟩ := hrel
    by_cases hlt : k < n
    · obtain ⟨b, off, rfl, ck⟩ := HC.out k wr hI.out k hlt
      have HK := Hid.mk' (HP.out k wr hlt hI.out)
      have HX : Hid (g k = false → ∀ j, j < k + 1 → g j = false) := fun e j hj => by
        rcases Nat.lt_or_ge j k with q | q
        · exact HA.out j q
        · obtain rfl : j = k := by omega
          exact e
      have HY : Hid (g k = true → R = k) := fun e => HS.out k hlt HA.out e
      have hklz : (k : Int) < (n : Int) := by omega
      clear HP HC HS HN
      cases hg : g k
      · rw [hg] at HK
        have HE2 := Hid.mk' (HX.out hg)
        clear hg HX HY
        go_wp2_with fail
        refine HK.out.mono ?_
        rintro e w1 ⟨rfl, hI1⟩
        have HI1 := Hid.mk' hI1
        clear hI1
        go_wp2
        go_roundw
        case rel => exact ⟨k + 1, by omega, by go_num, HE2, HI1⟩
        case measure => simp [intOf]; omega
      · rw [hg] at HK
        have HR := Hid.mk' (HY.out hg)
        clear hg HX HY
        go_wp2_with fail
        refine HK.out.mono ?_
        rintro e w1 ⟨rfl, hI1⟩
        have HI1 := Hid.mk' hI1
        clear hI1
        go_wp2
        go_ret
        exact ⟨ret_int HR.out.symm, _, HI1.out⟩
    · obtain rfl : k = n := by omega
      have HR := Hid.mk' (HN.out HA.out)
      clear HP HC HS HN
      go_wp2
      go_ret
      exact ⟨ret_int HR.out.symm, _, hI.out⟩
set_option maxHeartbeats 1000000 in
theorem containsL_any (F : Nat) (lb : Array Value) (g : Nat → Bool) (I : Nat → World → Prop) (a : Option Addr) (n cap : Nat) (av : Nat → Option Addr) (nv cv : Nat → Nat) (w : World) (hl : n ≤ 2147483648) (h0 : I 0 w) (hR : ∀ k W, I k W → ElemC W a n (fun j => .slice (av j) (nv j) (cv j)))
    (eg : ∀ args w, (callFunc F args).run Tryd.prog w = .ok (.enter F args) w) (hs : ∀ k W, k < n → I k W → Calls Tryd.prog F (#[.slice (av k) (nv k) (cv k)] ++ lb) W fun e w' => e = .returned (.bool (g k)) ∧ I (k + 1) w') :
    Calls Tryd.prog 37 #[.slice a n cap, .func (.func F) #[] lb] w fun e w' => e = .returned (.bool (anyN n g)) ∧ ∃ k, I k w' := by
  have HI := Hid.mk' (indexL_any F lb g I a n cap av nv cv w hl h0 hR eg hs)
  unfold anyN
  have hrg := idxN_range n g
  generalize idxN n g = y at *
  clear hs eg h0 hR
  go_enter Tryd.func37, Tryd.ntmps37
  go_wp2_with fail
  refine HI.out.mono ?_
  rintro e w1 ⟨rfl, hI⟩
  go_wp2
  go_ret
  exact ⟨rfl, hI⟩
end Go.Proofs.YtcklfcoobccgcaaDoor

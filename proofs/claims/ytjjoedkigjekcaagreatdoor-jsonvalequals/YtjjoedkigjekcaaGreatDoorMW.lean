/-
  What is proved here: what the small functions of package utf answer. · what utf.first answers at every text that isn't empty. · what utf.moved, utf.Next answer. · what utf.Decode and utf.Valid answer at every text of at most 2^31 bytes.
-/
import Derived.Test.YtjjoedkigjekcaaGreatDoorME
import Derived.Test.YtjjoedkigjekcaaGreatDoorMU
import Derived.OwnWalk
namespace Go.Proofs.YtjjoedkigjekcaaGreatDoor
open Go.RowKit

set_option maxHeartbeats 400000 in
theorem width_any (r : Int) (w : World) :
    Calls Tryz.prog 142 #[.int .i32 r] w fun e w' => e = .returned (.int .i64 (Utf.width r)) ∧ w = w' := by
  go_enter Tryz.func142, Tryz.ntmps142
  go_wp2
  all_goals go_ret
  all_goals refine ⟨ret_int ?_, rfl⟩
  all_goals (unfold Utf.width; (repeat' split) <;> omega)
set_option maxHeartbeats 400000 in
theorem formWidth_any (b : Int) (w : World) :
    Calls Tryz.prog 138 #[.int .u8 b] w fun e w' => e = .returned (.int .i64 (Utf.formWidth b)) ∧ w = w' := by
  go_enter Tryz.func138, Tryz.ntmps138
  go_wp2
  all_goals go_ret
  all_goals refine ⟨ret_int ?_, rfl⟩
  all_goals (unfold Utf.formWidth; (repeat' split) <;> omega)
set_option maxHeartbeats 400000 in
theorem leadBits_any (b n : Int) (w : World) (hb0 : 0 ≤ b) (hb1 : b < 256) :
    Calls Tryz.prog 139 #[.int .u8 b, .int .i64 n] w fun e w' => e = .returned (.int .i32 (Utf.leadBits b n)) ∧ w = w' := by
  go_enter Tryz.func139, Tryz.ntmps139
  go_wp2
  all_goals go_ret
  all_goals refine ⟨ret_int ?_, rfl⟩
  all_goals (simp only [beq_iff_eq, beq_eq_false_iff_ne, ne_eq] at *; unfold Utf.leadBits; (repeat' split) <;> omega)
theorem i32_and63 {x : Int} (h₀ : 0 ≤ x) (h₁ : x < 2147483648) : bits .and .i32 x 63 = x % 64 := bits_mask .i32 31 (by decide) wraps_i32 6 (by decide) x h₀ h₁
theorem i32_or0 {x : Int} (h₀ : 0 ≤ x) (h₁ : x < 2147483648) : bits .or .i32 x 0 = x := by
  have := bits_join .i32 31 (by decide) wraps_i32 0 x 0 h₀ (by omega) (by omega) (by omega) (by omega) (by omega)
  rw [this]; omega
set_option maxHeartbeats 400000 in
theorem leadsToRight_any (r n m : Int) (w : World) (h0 : 0 ≤ r) (hm0 : 0 ≤ m) (hm3 : m ≤ 3) (h1 : r * Utf.pw m < 2097152) :
    Calls Tryz.prog 140 #[.int .i32 r, .int .i64 n, .int .i64 m] w fun e w' => e = .returned (.bool (Utf.ltr r n m)) ∧ w = w' := by
  obtain rfl | rfl | rfl | rfl : m = 0 ∨ m = 1 ∨ m = 2 ∨ m = 3 := by omega
  all_goals (simp [Utf.pw] at h1)
  all_goals go_enter Tryz.func140, Tryz.ntmps140
  all_goals go_wp2_with (go_at_call 142; refine (width_any _ _).mono ?_; rintro e w' ⟨rfl, rfl⟩)
  all_goals go_ret
  all_goals refine ⟨ret_bool ?_, rfl⟩
  all_goals (try rw [i32_or0 h0 (by omega)])
  all_goals simp [Utf.ltr, Utf.pw, *]
end Go.Proofs.YtjjoedkigjekcaaGreatDoor
namespace Go.Proofs.YtjjoedkigjekcaaGreatDoor
open Go.RowKit

/-- the bytes behind the first, up to a place -/
def tl (s : ByteArray) (k : Nat) : List UInt8 := (s.data.toList.take k).drop 1
theorem tl_one (s : ByteArray) : tl s 1 = [] := by simp [tl]
theorem tl_succ (s : ByteArray) (k : Nat) (h1 : 1 ≤ k) (h : k < s.size) : tl s (k + 1) = tl s k ++ [s[k]] := by
  have e : s.data.toList.take (k + 1) = s.data.toList.take k ++ [s[k]] := by
    rw [List.take_succ_eq_append_getElem (by simpa using h)]; rfl
  have hl : (s.data.toList.take k).length = k := by rw [List.length_take]; have : s.data.toList.length = s.size := rfl; omega
  rw [tl, e, List.drop_append_of_le_length (by omega)]; rfl
theorem tl_length (s : ByteArray) (k : Nat) (h : k ≤ s.size) : (tl s k).length = k - 1 := by
  have : s.data.toList.length = s.size := rfl
  simp [tl]; omega

theorem first_inv (s : ByteArray) (k : Nat) (hne : 0 < s.size) (h : Utf.formWidth s[0].toNat ≠ 0) (hk1 : 1 ≤ k) (hk : k ≤ s.size) (hkn : (k : Int) ≤ Utf.formWidth s[0].toNat) :
    0 ≤ Utf.acc (Utf.leadBits s[0].toNat (Utf.formWidth s[0].toNat)) (tl s k) ∧ Utf.acc (Utf.leadBits s[0].toNat (Utf.formWidth s[0].toNat)) (tl s k) * Utf.pw (Utf.formWidth s[0].toNat - k) < 2097152 ∧ ((k : Int) < Utf.formWidth s[0].toNat → Utf.acc (Utf.leadBits s[0].toNat (Utf.formWidth s[0].toNat)) (tl s k) < 32768) := by
  have hlen := tl_length s k hk
  obtain ⟨a0, a1⟩ := Utf.acc_pw s[0] (tl s k) h (by rw [hlen]; omega)
  rw [hlen] at a1
  have e : Utf.formWidth s[0].toNat - (1 : Int) - ((k - 1 : Nat) : Int) = Utf.formWidth s[0].toNat - (k : Int) := by omega
  rw [e] at a1
  refine ⟨a0, a1, fun hkl => ?_⟩
  have hn := Utf.formWidth_le s[0].toNat
  have hm : Utf.formWidth s[0].toNat - k = 1 ∨ Utf.formWidth s[0].toNat - k = 2 ∨ Utf.formWidth s[0].toNat - k = 3 := by omega
  rcases hm with e | e | e <;> rw [e] at a1 <;> simp [Utf.pw] at a1 <;> omega

theorem first_cons (s : ByteArray) (hne : 0 < s.size) : s.data.toList = s[0] :: s.data.toList.drop 1 := by
  have hl : s.data.toList.length = s.size := rfl
  exact List.drop_eq_getElem_cons (l := s.data.toList) (i := 0) (by omega)
theorem tl_eq (s : ByteArray) (n : Nat) : (s.data.toList.drop 1).take (n - 1) = tl s n := by rw [tl, List.drop_take]
/-- utf.first's answer, said of the bytes as they stand. -/
theorem first_eq (s : ByteArray) (hne : 0 < s.size) (n : Nat) (hn : Utf.formWidth s[0].toNat = n) :
    Utf.first s.data.toList = if n = 0 then ((0, 0, 1) : Int × Int × Nat) else if (tl s n).all Utf.cont = false then (0, 0, 1)
      else if Utf.ltr (Utf.acc (Utf.leadBits s[0].toNat n) (tl s n)) n ((n : Int) - 1 - (tl s n).length) = false then (0, 0, 1)
      else if ((tl s n).length : Int) + 1 < n then ((0, 0, 2) : Int × Int × Nat) else ((Utf.acc (Utf.leadBits s[0].toNat n) (tl s n), (n : Int), 0) : Int × Int × Nat) := by
  rw [first_cons s hne, Utf.first]
  simp only [hn, Int.toNat_natCast, tl_eq, Int.natCast_eq_zero]
theorem tl_over (s : ByteArray) (n : Nat) (h : s.size ≤ n) : tl s n = tl s s.size := by
  have hl : s.data.toList.length = s.size := rfl
  rw [tl, tl, List.take_of_length_le (by omega), List.take_of_length_le (by omega)]
theorem first_none (s : ByteArray) (hne : 0 < s.size) (h : Utf.formWidth s[0].toNat = 0) : Utf.first s.data.toList = (0, 0, 1) := by
  rw [first_eq s hne 0 (by simpa using h)]; simp
theorem first_bad (s : ByteArray) (k : Nat) (hne : 0 < s.size) (hk1 : 1 ≤ k) (hk : k < s.size) (hkn : (k : Int) < Utf.formWidth s[0].toNat) (hc : Utf.cont s[k] = false) : Utf.first s.data.toList = (0, 0, 1) := by
  obtain ⟨n, hn⟩ : ∃ n : Nat, Utf.formWidth s[0].toNat = n := Int.eq_ofNat_of_zero_le (Utf.formWidth_le _).1
  rw [first_eq s hne n hn]
  rw [hn] at hkn
  have hl : s.data.toList.length = s.size := rfl
  have hm : s[k] ∈ tl s n := by
    rw [← tl_eq]
    refine List.mem_iff_getElem.2 ⟨k - 1, by simp; omega, ?_⟩
    have e : k - 1 + 1 = k := by omega
    simp only [List.getElem_take, List.getElem_drop, Nat.add_comm 1 (k - 1), e]
    rfl
  have hz : (tl s n).all Utf.cont = false := by
    rw [List.all_eq_false]
    exact ⟨s[k], hm, by simp [hc]⟩
  rw [if_neg (by omega), if_pos hz]
theorem first_end (s : ByteArray) (k : Nat) (hne : 0 < s.size) (hk1 : 1 ≤ k) (hk : k ≤ s.size) (hkn : (k : Int) ≤ Utf.formWidth s[0].toNat) (hend : k = s.size ∨ (k : Int) = Utf.formWidth s[0].toNat) (hall : (tl s k).all Utf.cont = true) :
    Utf.first s.data.toList = if Utf.ltr (Utf.acc (Utf.leadBits s[0].toNat (Utf.formWidth s[0].toNat)) (tl s k)) (Utf.formWidth s[0].toNat) (Utf.formWidth s[0].toNat - k) = false then ((0, 0, 1) : Int × Int × Nat)
      else if (k : Int) < Utf.formWidth s[0].toNat then (0, 0, 2) else (Utf.acc (Utf.leadBits s[0].toNat (Utf.formWidth s[0].toNat)) (tl s k), Utf.formWidth s[0].toNat, 0) := by
  obtain ⟨n, hn⟩ : ∃ n : Nat, Utf.formWidth s[0].toNat = n := Int.eq_ofNat_of_zero_le (Utf.formWidth_le _).1
  rw [first_eq s hne n hn]
  rw [hn] at hkn hend ⊢
  have e : tl s n = tl s k := by
    rcases hend with h | h
    · rw [tl_over s n (by omega), h]
    · rw [show n = k by omega]
  rw [e, hall, tl_length s k hk, show (n : Int) - 1 - ((k - 1 : Nat) : Int) = (n : Int) - (k : Int) by omega, show ((k - 1 : Nat) : Int) + 1 = (k : Int) by omega, if_neg (by omega), if_neg (by decide)]

/-- what a call that answers a rune, a width and an error leaves -/
def Ans (w : World) (x : Int × Int × Nat) (at_ : Int) (p : Nat → Addr) (e : Ending) (w' : World) : Prop :=
  Below w.heap.size w w' ∧ ((x.2.2 = 0 ∧ e = .returned (.tuple #[.int .i32 x.1, .int .i64 x.2.1, .nilIface])) ∨
    (x.2.2 ≠ 0 ∧ ∃ v, e = .returned (.tuple #[.int .i32 0, .int .i64 0, v]) ∧ Flt w' v w.heap.size at_ (p x.2.2)))
theorem ans_new {w : World} {x : Int × Int × Nat} {at_ : Int} {p : Nat → Addr} (n : Nat) (hn : n ≠ 0) (h : x = (0, 0, n)) :
    Ans w x at_ p (.returned (.tuple #[.int .i32 0, .int .i64 0, .iface 53 (.pointer (some ⟨w.heap.size, 0, none⟩))])) ((w.alloc (.cells #[.int .i64 at_, .iface 185 (.pointer (some (p n)))] 57)).drew) := by
  subst h
  exact ⟨((Below.refl _ _).alloc (Nat.le_refl _) _).drew, .inr ⟨hn, _, rfl, w.heap.size, Nat.le_refl _, rfl, by simp, by simp⟩⟩

theorem ans_ok {w : World} {x : Int × Int × Nat} {at_ : Int} {p : Nat → Addr} {r n : Int} (h : x = (r, n, 0)) :
    Ans w x at_ p (.returned (.tuple #[.int .i32 r, .int .i64 n, .nilIface])) w := by
  subst h
  exact ⟨Below.refl _ _, .inl ⟨rfl, rfl⟩⟩
set_option maxRecDepth 20000 in
set_option maxHeartbeats 1000000 in
theorem first_any (s : ByteArray) (w : World) (p : Nat → Addr) (hs : s.size ≤ maxLen) (hne : 0 < s.size) (h : Utf.formWidth s[0].toNat ≠ 0)
    (g1 : w.cell? ⟨1, 0, none⟩ = some (.iface 185 (.pointer (some (p 1))))) (g2 : w.cell? ⟨2, 0, none⟩ = some (.iface 185 (.pointer (some (p 2))))) :
    Calls Tryz.prog 132 #[.string s] w (Ans w (Utf.first s.data.toList) 0 p) := by
  unfold maxLen at hs
  have hn := Utf.formWidth_le s[0].toNat
  have hb : (s[0].toNat : Int) < 256 := by have := s[0].toNat_lt; omega
  have hb0 : 0 ≤ (s[0].toNat : Int) := by omega
  have hz : (Utf.formWidth s[0].toNat == 0) = false := by simpa using h
  go_enter Tryz.func132, Tryz.ntmps132
  go_wp2_with (first | (go_at_call 138; refine (formWidth_any _ _).mono ?_; rintro e w' ⟨rfl, rfl⟩) | (go_at_call 139; refine (leadBits_any _ _ _ hb0 hb).mono ?_; rintro e w' ⟨rfl, rfl⟩))
  go_loop [6, 7] (fun r i => ∃ k : Nat, 1 ≤ k ∧ k ≤ s.size ∧ (k : Int) ≤ Utf.formWidth s[0].toNat ∧ i = .int .i64 k ∧ r = .int .i32 (Utf.acc (Utf.leadBits s[0].toNat (Utf.formWidth s[0].toNat)) (tl s k)) ∧ (tl s k).all Utf.cont = true) (fun _ i => s.size - (intOf i).toNat)
  case atStart => exact ⟨1, Nat.le_refl _, hne, by omega, rfl, by rw [tl_one]; rfl, by rw [tl_one]; rfl⟩
  case round =>
    obtain ⟨k, hk1, hk, hkn, rfl, rfl, hall⟩ := hrel
    obtain ⟨a0, a1, a2⟩ := first_inv s k hne h hk1 hk hkn
    have HALL : Hid ((tl s k).all Utf.cont = true) := hall
    clear hall
    by_cases hlt : k < s.size
    · by_cases hkl : (k : Int) < Utf.formWidth s[0].toNat
      · have a2 := a2 hkl
        clear a1
        have hc := Utf.cont_test s[k]
        cases hcc : Utf.cont s[k] <;> rw [hcc] at hc
        · have HF : Hid (Utf.first s.data.toList = (0, 0, 1)) := first_bad s k hne hk1 hlt hkl hcc
          simp only [Bool.not_false] at hc
          go_wp2
          go_region
          go_wp2
          go_ret3
          exact ans_new 1 (by decide) HF.out
        · simp only [Bool.not_true] at hc
          have hcs : ((s[k].toNat : Nat) : Int) < 256 := by have := s[k].toNat_lt; omega
          have HT : Hid (tl s (k + 1) = tl s k ++ [s[k]]) := tl_succ s k hk1 hlt
          have HC : Hid (Utf.cont s[k] = true) := hcc
          clear hcc
          go_wp2
          go_round
          case rel => exact ⟨k + 1, by omega, by omega, by omega, by go_num, by rw [HT.out, Utf.acc_snoc]; go_num, by rw [HT.out, List.all_append, HALL.out]; simp [HC.out]⟩
          case measure => simp [intOf]; omega
      · have HF : Hid _ := first_end s k hne hk1 hk hkn (.inr (by omega)) HALL.out
        have HL := Hid.mk' (leadsToRight_any (Utf.acc (Utf.leadBits s[0].toNat (Utf.formWidth s[0].toNat)) (tl s k)) (Utf.formWidth s[0].toNat) (Utf.formWidth s[0].toNat - k) w a0 (by omega) (by omega) a1)
        clear a1 a2
        cases hv : Utf.ltr (Utf.acc (Utf.leadBits s[0].toNat (Utf.formWidth s[0].toNat)) (tl s k)) (Utf.formWidth s[0].toNat) (Utf.formWidth s[0].toNat - k)
        · have HR := Hid.mk' (HF.out.trans (if_pos hv))
          go_wp2_with (go_at_call 140; refine HL.out.mono ?_; rintro e w' ⟨rfl, rfl⟩)
          go_region
          go_wp2
          go_ret3
          exact ans_new 1 (by decide) HR.out
        · have HR := Hid.mk' (HF.out.trans ((if_neg (by rw [hv]; decide)).trans (if_neg hkl)))
          go_wp2_with (go_at_call 140; refine HL.out.mono ?_; rintro e w' ⟨rfl, rfl⟩)
          go_ret3
          exact ans_ok HR.out
    · have HF : Hid _ := first_end s k hne hk1 hk hkn (.inl (by omega)) HALL.out
      have HL := Hid.mk' (leadsToRight_any (Utf.acc (Utf.leadBits s[0].toNat (Utf.formWidth s[0].toNat)) (tl s k)) (Utf.formWidth s[0].toNat) (Utf.formWidth s[0].toNat - k) w a0 (by omega) (by omega) a1)
      clear a1 a2
      cases hv : Utf.ltr (Utf.acc (Utf.leadBits s[0].toNat (Utf.formWidth s[0].toNat)) (tl s k)) (Utf.formWidth s[0].toNat) (Utf.formWidth s[0].toNat - k)
      · have HR := Hid.mk' (HF.out.trans (if_pos hv))
        by_cases hkl : (k : Int) < Utf.formWidth s[0].toNat
        all_goals
          go_wp2_with (go_at_call 140; refine HL.out.mono ?_; rintro e w' ⟨rfl, rfl⟩)
          go_region
          go_wp2
          go_ret3
          exact ans_new 1 (by decide) HR.out
      · by_cases hkl : (k : Int) < Utf.formWidth s[0].toNat
        · have HR := Hid.mk' (HF.out.trans ((if_neg (by rw [hv]; decide)).trans (if_pos hkl)))
          go_wp2_with (go_at_call 140; refine HL.out.mono ?_; rintro e w' ⟨rfl, rfl⟩)
          go_region
          go_wp2
          go_ret3
          exact ans_new 2 (by decide) HR.out
        · have HR := Hid.mk' (HF.out.trans ((if_neg (by rw [hv]; decide)).trans (if_neg hkl)))
          go_wp2_with (go_at_call 140; refine HL.out.mono ?_; rintro e w' ⟨rfl, rfl⟩)
          go_ret3
          exact ans_ok HR.out

set_option maxHeartbeats 400000 in
theorem first_zero (s : ByteArray) (w : World) (p : Nat → Addr) (_hs : s.size ≤ maxLen) (hne : 0 < s.size) (h : Utf.formWidth s[0].toNat = 0)
    (g1 : w.cell? ⟨1, 0, none⟩ = some (.iface 185 (.pointer (some (p 1))))) :
    Calls Tryz.prog 132 #[.string s] w (Ans w (Utf.first s.data.toList) 0 p) := by
  unfold maxLen at _hs
  have HF := Hid.mk' (first_none s hne h)
  go_enter Tryz.func132, Tryz.ntmps132
  go_wp2_with (go_at_call 138; refine (formWidth_any _ _).mono ?_; rintro e w' ⟨rfl, rfl⟩)
  go_region
  go_wp2
  go_ret3
  exact ans_new 1 (by decide) HF.out
end Go.Proofs.YtjjoedkigjekcaaGreatDoor
namespace Go.Proofs.YtjjoedkigjekcaaGreatDoor
open Go.RowKit

set_option maxHeartbeats 400000 in
theorem moved_nil (n : Int) (w : World) :
    Calls Tryz.prog 133 #[.nilIface, .int .i64 n] w fun e w' => e = .returned .nilIface ∧ Below w.heap.size w w' := by
  go_enter Tryz.func133, Tryz.ntmps133
  go_wp2_with (go_at_call 33; refine (as_nil _ _).mono ?_; rintro e w' ⟨rfl, rfl⟩)
  go_ret
  exact ⟨rfl, (Below.refl _ _).alloc (Nat.le_refl _) _⟩



set_option maxHeartbeats 1000000 in
theorem moved_fault (b : Nat) (at_ n : Int) (p : Addr) (w : World) (ha0 : 0 ≤ at_) (hn0 : 0 ≤ n) (ha1 : at_ ≤ 4611686018427387904) (hn1 : n < 4611686018427387904)
    (hg : w.cell? ⟨0, 0, none⟩ = some (.iface 98 (.agg #[.pointer (some ⟨23, 32, none⟩)])))
    (h0 : w.cell? ⟨b, 0, none⟩ = some (.int .i64 at_)) (h1 : w.cell? ⟨b, 1, none⟩ = some (.iface 185 (.pointer (some p)))) :
    Calls Tryz.prog 133 #[.iface 53 (.pointer (some ⟨b, 0, none⟩)), .int .i64 n] w fun e w' => ∃ v, e = .returned v ∧ Flt w' v w.heap.size (at_ + n) p ∧ Below w.heap.size w w' := by
  have hb := lt_of_cell h0
  have hge := lt_of_cell hg
  have hgA : (w.alloc (.cells #[.pointer none] 53)).cell? ⟨0, 0, none⟩ = some (.iface 98 (.agg #[.pointer (some ⟨23, 32, none⟩)])) := by
    rw [World.cell?_alloc_lt _ _ ⟨0, 0, none⟩ hge]; exact hg
  have htA : (w.alloc (.cells #[.pointer none] 53)).cell? ⟨w.heap.size, 0, none⟩ = some (.pointer none) := by simp
  have hfA : (w.alloc (.cells #[.pointer none] 53)).frozen? ⟨w.heap.size, 0, none⟩ = false := by simp
  have HA := Hid.mk' (as_hit2 ⟨b, 0, none⟩ _ _ _ hgA htA hfA)
  have HB : Hid (∀ w', Below w.heap.size (w.alloc (.cells #[.pointer none] 53)) w' → Below w.heap.size w w') := fun w' h => ((Below.refl _ _).alloc (Nat.le_refl _) _).trans h
  clear hgA htA hfA
  go_enter Tryz.func133, Tryz.ntmps133
  go_wp2_with (go_at_call 33; refine HA.out.mono ?_; rintro e w1 ⟨rfl, hc, hbel⟩; have HW := HB.out _ hbel; have k0 := (HW.cell (p := ⟨b, 0, none⟩) hb).trans h0; have k1 := (HW.cell (p := ⟨b, 1, none⟩) hb).trans h1; clear h0 h1 hg)
  go_region
  go_wp2
  go_ret
  exact ⟨_, rfl, ⟨w1.heap.size, HW.size, rfl, by simp, by simp⟩, (HW.alloc HW.size _).drew⟩


theorem first_all (s : ByteArray) (w : World) (p : Nat → Addr) (hs : s.size ≤ maxLen) (hne : 0 < s.size) (hg : Gl p w) :
    Calls Tryz.prog 132 #[.string s] w (Ans w (Utf.first s.data.toList) 0 p) := by
  by_cases h : Utf.formWidth s[0].toNat = 0
  · exact first_zero s w p hs hne h hg.g1
  · exact first_any s w p hs hne h hg.g1 hg.g2
theorem first_ok (s : ByteArray) (w : World) (p : Nat → Addr) (hs : s.size ≤ maxLen) (hne : 0 < s.size) (hg : Gl p w) (x : Int × Int × Nat) (hx : Utf.first s.data.toList = x) (h : x.2.2 = 0) :
    Calls Tryz.prog 132 #[.string s] w fun e w' => e = .returned (.tuple #[.int .i32 x.1, .int .i64 x.2.1, .nilIface]) ∧ Below w.heap.size w w' := by
  refine (first_all s w p hs hne hg).mono ?_
  rintro e w' ⟨hb, h1 | h1⟩
  · exact ⟨by rw [← hx]; exact h1.2, hb⟩
  · exact absurd (by rw [hx]; exact h) h1.1
theorem first_err (s : ByteArray) (w : World) (p : Nat → Addr) (hs : s.size ≤ maxLen) (hne : 0 < s.size) (hg : Gl p w) (x : Int × Int × Nat) (hx : Utf.first s.data.toList = x) (h : x.2.2 ≠ 0) :
    Calls Tryz.prog 132 #[.string s] w fun e w' => ∃ b, e = .returned (.tuple #[.int .i32 0, .int .i64 0, .iface 53 (.pointer (some ⟨b, 0, none⟩))]) ∧ w'.cell? ⟨b, 0, none⟩ = some (.int .i64 0) ∧ w'.cell? ⟨b, 1, none⟩ = some (.iface 185 (.pointer (some (p x.2.2)))) ∧ Below w.heap.size w w' := by
  refine (first_all s w p hs hne hg).mono ?_
  rintro e w' ⟨hb, h1 | h1⟩
  · exact absurd (by rw [← hx]; exact h1.1) h
  · obtain ⟨_, v, rfl, b, _, rfl, c0, c1⟩ := h1
    exact ⟨b, rfl, c0, by rw [← hx]; exact c1, hb⟩

set_option maxHeartbeats 400000 in
theorem next_range (s : ByteArray) (at_ : Int) (w : World) (p : Nat → Addr) (_hs : s.size ≤ maxLen) (hg : Gl p w) (h : at_ < 0 ∨ (s.size : Int) ≤ at_) :
    Calls Tryz.prog 119 #[.string s, .int .i64 at_] w (Ans w (0, 0, 4) at_ p) := by
  unfold maxLen at _hs
  have g4 := hg.g4
  clear hg
  by_cases h0 : at_ < 0
  all_goals
    go_enter Tryz.func119, Tryz.ntmps119
    go_wp2
    go_region
    go_wp2
    go_ret3
    exact ans_new 4 (by decide) rfl


set_option maxHeartbeats 1000000 in
theorem next_in (s : ByteArray) (k : Nat) (w : World) (p : Nat → Addr) (hs : s.size ≤ 2147483648) (hg : Gl p w) (hk : k < s.size) :
    Calls Tryz.prog 119 #[.string s, .int .i64 k] w (Ans w (Utf.first (s.data.toList.drop k)) k p) := by
  have hcs := cut_size s k
  have hne : 0 < (s.extract k s.size).size := by omega
  have hm : (s.extract k s.size).size ≤ maxLen := by unfold maxLen; omega
  generalize hx : Utf.first (s.data.toList.drop k) = x
  by_cases h : x.2.2 = 0
  · have HF := Hid.mk' (fun w hg => first_ok (s.extract k s.size) w p hm hne hg x (by rw [cut_toList, hx]) h)
    clear hcs hne hm hx
    go_enter Tryz.func119, Tryz.ntmps119
    go_wp2_with (first | (go_at_call 132; refine (HF.out _ hg).mono ?_; rintro e w1 ⟨rfl, hb1⟩) | (go_at_call 133; refine (moved_nil _ _).mono ?_; rintro e w2 ⟨rfl, hb2⟩))
    go_ret3
    exact ⟨hb1.trans (hb2.mono hb1.size), .inl ⟨h, rfl⟩⟩
  · have HF := Hid.mk' (fun w hg => first_err (s.extract k s.size) w p hm hne hg x (by rw [cut_toList, hx]) h)
    clear hcs hne hm hx
    go_enter Tryz.func119, Tryz.ntmps119
    go_wp2_with (first | (go_at_call 132; refine (HF.out _ hg).mono ?_; rintro e w1 ⟨b, rfl, c0, c1, hb1⟩) | (go_at_call 133; refine (moved_fault b 0 (k : Int) (p x.2.2) w1 (by omega) (by omega) (by omega) (by omega) (hg.below hb1).et c0 c1).mono ?_; rintro e w2 ⟨v, rfl, hv, hb2⟩))
    go_ret3
    exact ⟨hb1.trans (hb2.mono hb1.size), .inr ⟨h, v, rfl, hv.weaken hb1.size (by omega)⟩⟩
end Go.Proofs.YtjjoedkigjekcaaGreatDoor
namespace Go.Proofs.YtjjoedkigjekcaaGreatDoor
open Go.RowKit


theorem next_ok (s : ByteArray) (k : Nat) (w : World) (p : Nat → Addr) (hs : s.size ≤ 2147483648) (hg : Gl p w) (hk : k < s.size) (r n : Int) (h : Utf.first (s.data.toList.drop k) = (r, n, 0)) :
    Calls Tryz.prog 119 #[.string s, .int .i64 k] w fun e w' => e = .returned (.tuple #[.int .i32 r, .int .i64 n, .nilIface]) ∧ Below w.heap.size w w' := by
  refine (next_in s k w p hs hg hk).mono ?_
  rw [h]
  rintro e w' ⟨hb, h1 | h1⟩
  · exact ⟨h1.2, hb⟩
  · exact absurd rfl h1.1
theorem next_err (s : ByteArray) (k : Nat) (w : World) (p : Nat → Addr) (hs : s.size ≤ 2147483648) (hg : Gl p w) (hk : k < s.size) (h : (Utf.first (s.data.toList.drop k)).2.2 ≠ 0) :
    Calls Tryz.prog 119 #[.string s, .int .i64 k] w fun e w' => ∃ b, e = .returned (.tuple #[.int .i32 0, .int .i64 0, .iface 53 (.pointer (some ⟨b, 0, none⟩))]) ∧ Flt w' (.iface 53 (.pointer (some ⟨b, 0, none⟩))) w.heap.size k (p (Utf.first (s.data.toList.drop k)).2.2) ∧ Below w.heap.size w w' := by
  refine (next_in s k w p hs hg hk).mono ?_
  rintro e w' ⟨hb, h1 | h1⟩
  · exact absurd h1.1 h
  · obtain ⟨_, v, rfl, hf⟩ := h1
    obtain ⟨b, h1, rfl, h3⟩ := hf
    exact ⟨b, rfl, ⟨b, h1, rfl, h3⟩, hb⟩

/-- what a call that answers runes and an error leaves -/
def AnsL (w : World) (x : List Int × Nat × Nat) (p : Nat → Addr) (e : Ending) (w' : World) : Prop :=
  Below w.heap.size w w' ∧ ((x.2.2 = 0 ∧ ∃ v, e = .returned (.tuple #[v, .nilIface]) ∧ w'.ownsRow w.heap.size 21 1 v x.1.length (x.1.map (Value.int .i32))) ∨
    (x.2.2 ≠ 0 ∧ ∃ v, e = .returned (.tuple #[.slice none 0 0, v]) ∧ Flt w' v w.heap.size x.2.1 (p x.2.2)))

set_option maxHeartbeats 1000000 in
theorem decode_any (s : ByteArray) (w : World) (p : Nat → Addr) (hs : s.size ≤ 2147483648) (hg : Gl p w) :
    Calls Tryz.prog 103 #[.string s] w (AnsL w (Utf.dec s.data.toList 0) p) := by
  obtain ⟨i0, hi, hz0, hz1, hz2⟩ := info_parts Tryz.infoRune
  have hsl : s.data.toList.length = s.size := rfl
  have HSL := Hid.mk' hsl
  clear hsl
  go_enter Tryz.func103, Tryz.ntmps103
  go_wp2
  go_loopw [4, 5] (fun v i wr => ∃ (k : Nat) (rs : List Int), k ≤ s.size ∧ i = .int .i64 k ∧ wr.ownsRow w.heap.size 21 1 v rs.length (rs.map (Value.int .i32)) ∧ Below w.heap.size w wr ∧ rs.length ≤ k ∧ Hid (Utf.dec s.data.toList 0 = Utf.glue rs (Utf.dec (s.data.toList.drop k) k))) (fun _ i _ => s.size - (intOf i).toNat)
  case atStart => exact ⟨0, [], Nat.zero_le _, rfl, World.ownsRow_nil _ _ _ _, Below.refl _ _, Nat.le_refl _, Utf.glue_start _⟩
  case round =>
    obtain ⟨k, rs, hk, rfl, hown, hbel, hle, HD⟩ := hrel
    by_cases hlt : k < s.size
    · by_cases hx : (Utf.first (s.data.toList.drop k)).2.2 = 0
      · obtain ⟨r, n, hf⟩ : ∃ r n, Utf.first (s.data.toList.drop k) = (r, n, 0) := ⟨_, _, Prod.ext rfl (Prod.ext rfl hx)⟩
        have hwid := Utf.first_width hf
        rw [List.length_drop, HSL.out] at hwid
        obtain ⟨n1, n4, nl, -, -⟩ := hwid
        have HN := Hid.mk' (next_ok s k wr p hs (hg.below hbel) hlt r n hf)
        have HF := Hid.mk' hf
        clear hf hx
        go_wp2_with (first | (go_at_call 119; refine HN.out.mono ?_; rintro e w1 ⟨rfl, hb1⟩; have hown1 := owns_below hown hb1; have hs1 := hb1.size; have hs0 := hbel.size) | (at_builtin; refine wpList_append_own _ rfl _ _ 119 rfl w.heap.size 21 i0 (.int .i32 0) 1 4 Tryz.underlying119 hi hz0 hz1 hz2 rfl (by decide) _ _ _ rfl (hown1.alloc _) ⟨w1.heap.size, 0, none⟩ 1 1 [.int .i32 r] rfl rfl (cell_one_new _ _ _) (by intro u hu; simp at hu; subst hu; rfl) (by unfold maxLen; omega) (by omega) (by simp; omega) ?_; intro v' w2 hown' hgrow _))
        have R1 := ((hbel.trans (hb1.mono hs0)).alloc (by omega) _).grown hgrow (by simp; omega) (fun j hj => (hown1.lt j hj).1)
        have R2 : w2.ownsRow w.heap.size 21 1 v' (rs ++ [r]).length ((rs ++ [r]).map (Value.int .i32)) := by simpa using hown'
        have R3 : Hid (Utf.dec s.data.toList 0 = Utf.glue (rs ++ [r]) (Utf.dec (s.data.toList.drop (k + n.toNat)) (k + n.toNat))) := by
          show _ = _
          rw [HD.out, Utf.dec_step k HF.out, Utf.glue_glue, List.drop_drop]
        clear hown' hgrow hown1 hown
        go_roundw
        case rel => exact ⟨k + n.toNat, rs ++ [r], by omega, congrArg (Value.int .i64) (by omega), R2, R1, by simp; omega, R3⟩
        case measure => simp [intOf]; omega
      · have HN := Hid.mk' (next_err s k wr p hs (hg.below hbel) hlt hx)
        have HE : Hid (Utf.dec s.data.toList 0 = ([], k, (Utf.first (s.data.toList.drop k)).2.2)) := by
          show _ = _
          rw [HD.out, Utf.dec_bad k (by intro e; have := congrArg List.length e; rw [List.length_drop, HSL.out] at this; simp at this; omega) hx, Utf.glue_bad _ _ _ hx]
        have HX := Hid.mk' hx
        clear hx
        go_wp2_with (go_at_call 119; refine HN.out.mono ?_; rintro e w1 ⟨b, rfl, hf, hb1⟩)
        go_ret2
        rw [HE.out]
        exact ⟨hbel.trans (hb1.mono hbel.size), .inr ⟨HX.out, _, rfl, hf.weaken hbel.size rfl⟩⟩
    · have HE : Hid (Utf.dec s.data.toList 0 = (rs, 0, 0)) := by
        show _ = _
        rw [HD.out, List.drop_of_length_le (by rw [HSL.out]; omega), Utf.dec_nil, Utf.glue_nil]
      go_wp2
      go_ret2
      rw [HE.out]
      exact ⟨hbel, .inl ⟨rfl, _, rfl, hown⟩⟩

theorem decode_ok (s : ByteArray) (w : World) (p : Nat → Addr) (hs : s.size ≤ 2147483648) (hg : Gl p w) (rs : List Int) (h : Utf.dec s.data.toList 0 = (rs, 0, 0)) :
    Calls Tryz.prog 103 #[.string s] w fun e w' => ∃ v, e = .returned (.tuple #[v, .nilIface]) ∧ w'.ownsRow w.heap.size 21 1 v rs.length (rs.map (Value.int .i32)) ∧ Below w.heap.size w w' := by
  refine (decode_any s w p hs hg).mono ?_
  rw [h]
  rintro e w' ⟨hb, h1 | h1⟩
  · obtain ⟨_, v, rfl, ho⟩ := h1
    exact ⟨v, rfl, ho, hb⟩
  · exact absurd rfl h1.1
theorem decode_err (s : ByteArray) (w : World) (p : Nat → Addr) (hs : s.size ≤ 2147483648) (hg : Gl p w) (k c : Nat) (h : Utf.dec s.data.toList 0 = ([], k, c)) (hc : c ≠ 0) :
    Calls Tryz.prog 103 #[.string s] w fun e w' => ∃ b, e = .returned (.tuple #[.slice none 0 0, .iface 53 (.pointer (some ⟨b, 0, none⟩))]) ∧ Flt w' (.iface 53 (.pointer (some ⟨b, 0, none⟩))) w.heap.size k (p c) ∧ Below w.heap.size w w' := by
  refine (decode_any s w p hs hg).mono ?_
  rw [h]
  rintro e w' ⟨hb, h1 | h1⟩
  · exact absurd h1.1 hc
  · obtain ⟨_, v, rfl, hf⟩ := h1
    obtain ⟨b, h1, rfl, h3⟩ := hf
    exact ⟨b, rfl, ⟨b, h1, rfl, h3⟩, hb⟩
end Go.Proofs.YtjjoedkigjekcaaGreatDoor

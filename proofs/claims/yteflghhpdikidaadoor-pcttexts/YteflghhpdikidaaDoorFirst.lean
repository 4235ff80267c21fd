/-
  What is proved here: what utf.first answers at every text that isn't empty.
-/
import Derived.Test.YteflghhpdikidaaDoorWalk1
namespace Go.Proofs.YteflghhpdikidaaDoor
open Go.RowKit

/-- the bytes behind the first, up to a place -/
def tl (s : ByteArray) (k : Nat) : List UInt8 := (s.data.toList.take k).drop 1
theorem tl_one (s : ByteArray) : tl s 1 = [] := by simp [tl]
theorem tl_succ (s : ByteArray) (k : Nat) (h1 : 1 ≤ k) (h : k < s.size) : tl s (k + 1) = tl s k ++ [s[k]] := by
  have e : s.data.toList.take (k + 1) = s.data.toList.take k ++ [s[k]] := by
    rw [List.take_succ_eq_append_getElem (by simpa using h)]; rfl
  have hl : (s.data.toList.take k).length = k := by rw [List.length_take]; have : s.data.toList.length = s.size := rfl; omega
  rw [tl, e, List.drop_append_of_le_length (by omega)]; rfl
theorem tl_length (s : ByteArray) (k : Nat) (h : k ≤ s.size) : (tl s k).length = k - 1 := by
  have : s.data.toList.length = s.size := rfl
  simp [tl]; omega

theorem first_inv (s : ByteArray) (k : Nat) (hne : 0 < s.size) (h : Utf.formWidth s[0].toNat ≠ 0) (hk1 : 1 ≤ k) (hk : k ≤ s.size) (hkn : (k : Int) ≤ Utf.formWidth s[0].toNat) :
    0 ≤ Utf.acc (Utf.leadBits s[0].toNat (Utf.formWidth s[0].toNat)) (tl s k) ∧ Utf.acc (Utf.leadBits s[0].toNat (Utf.formWidth s[0].toNat)) (tl s k) * Utf.pw (Utf.formWidth s[0].toNat - k) < 2097152 ∧ ((k : Int) < Utf.formWidth s[0].toNat → Utf.acc (Utf.leadBits s[0].toNat (Utf.formWidth s[0].toNat)) (tl s k) < 32768) := by
  have hlen := tl_length s k hk
  obtain ⟨a0, a1⟩ := Utf.acc_pw s[0] (tl s k) h (by rw [hlen]; omega)
  rw [hlen] at a1
  have e : Utf.formWidth s[0].toNat - (1 : Int) - ((k - 1 : Nat) : Int) = Utf.formWidth s[0].toNat - (k : Int) := by omega
  rw [e] at a1
  refine ⟨a0, a1, fun hkl => ?_⟩
  have hn := Utf.formWidth_le s[0].toNat
  have hm : Utf.formWidth s[0].toNat - k = 1 ∨ Utf.formWidth s[0].toNat - k = 2 ∨ Utf.formWidth s[0].toNat - k = 3 := by omega
  rcases hm with e | e | e <;> rw [e] at a1 <;> simp [Utf.pw] at a1 <;> omega

theorem first_cons (s : ByteArray) (hne : 0 < s.size) : s.data.toList = s[0] :: s.data.toList.drop 1 := by
  have hl : s.data.toList.length = s.size := rfl
  exact List.drop_eq_getElem_cons (l := s.data.toList) (i := 0) (by omega)
theorem tl_eq (s : ByteArray) (n : Nat) : (s.data.toList.drop 1).take (n - 1) = tl s n := by rw [tl, List.drop_take]
/-- utf.first's answer, said of the bytes as they stand. -/
theorem first_eq (s : ByteArray) (hne : 0 < s.size) (n : Nat) (hn : Utf.formWidth s[0].toNat = n) :
    Utf.first s.data.toList = if n = 0 then ((0, 0, 1) : Int × Int × Nat) else if (tl s n).all Utf.cont = false then (0, 0, 1)
      else if Utf.ltr (Utf.acc (Utf.leadBits s[0].toNat n) (tl s n)) n ((n : Int) - 1 - (tl s n).length) = false then (0, 0, 1)
      else if ((tl s n).length : Int) + 1 < n then ((0, 0, 2) : Int × Int × Nat) else ((Utf.acc (Utf.leadBits s[0].toNat n) (tl s n), (n : Int), 0) : Int × Int × Nat) := by
  rw [first_cons s hne, Utf.first]
  simp only [hn, Int.toNat_natCast, tl_eq, Int.natCast_eq_zero]
theorem tl_over (s : ByteArray) (n : Nat) (h : s.size ≤ n) : tl s n = tl s s.size := by
  have hl : s.data.toList.length = s.size := rfl
  rw [tl, tl, List.take_of_length_le (by omega), List.take_of_length_le (by omega)]
theorem first_none (s : ByteArray) (hne : 0 < s.size) (h : Utf.formWidth s[0].toNat = 0) : Utf.first s.data.toList = (0, 0, 1) := by
  rw [first_eq s hne 0 (by simpa using h)]; simp
theorem first_bad (s : ByteArray) (k : Nat) (hne : 0 < s.size) (hk1 : 1 ≤ k) (hk : k < s.size) (hkn : (k : Int) < Utf.formWidth s[0].toNat) (hc : Utf.cont s[k] = false) : Utf.first s.data.toList = (0, 0, 1) := by
  obtain ⟨n, hn⟩ : ∃ n : Nat, Utf.formWidth s[0].toNat = n := Int.eq_ofNat_of_zero_le (Utf.formWidth_le _).1
  rw [first_eq s hne n hn]
  rw [hn] at hkn
  have hl : s.data.toList.length = s.size := rfl
  have hm : s[k] ∈ tl s n := by
    rw [← tl_eq]
    refine List.mem_iff_getElem.2 ⟨k - 1, by simp; omega, ?_⟩
    have e : k - 1 + 1 = k := by omega
    simp only [List.getElem_take, List.getElem_drop, Nat.add_comm 1 (k - 1), e]
    rfl
  have hz : (tl s n).all Utf.cont = false := by
    rw [List.all_eq_false]
    exact ⟨s[k], hm, by simp [hc]⟩
  rw [if_neg (by omega), if_pos hz]
theorem first_end (s : ByteArray) (k : Nat) (hne : 0 < s.size) (hk1 : 1 ≤ k) (hk : k ≤ s.size) (hkn : (k : Int) ≤ Utf.formWidth s[0].toNat) (hend : k = s.size ∨ (k : Int) = Utf.formWidth s[0].toNat) (hall : (tl s k).all Utf.cont = true) :
    Utf.first s.data.toList = if Utf.ltr (Utf.acc (Utf.leadBits s[0].toNat (Utf.formWidth s[0].toNat)) (tl s k)) (Utf.formWidth s[0].toNat) (Utf.formWidth s[0].toNat - k) = false then ((0, 0, 1) : Int × Int × Nat)
      else if (k : Int) < Utf.formWidth s[0].toNat then (0, 0, 2) else (Utf.acc (Utf.leadBits s[0].toNat (Utf.formWidth s[0].toNat)) (tl s k), Utf.formWidth s[0].toNat, 0) := by
  obtain ⟨n, hn⟩ : ∃ n : Nat, Utf.formWidth s[0].toNat = n := Int.eq_ofNat_of_zero_le (Utf.formWidth_le _).1
  rw [first_eq s hne n hn]
  rw [hn] at hkn hend ⊢
  have e : tl s n = tl s k := by
    rcases hend with h | h
    · rw [tl_over s n (by omega), h]
    · rw [show n = k by omega]
  rw [e, hall, tl_length s k hk, show (n : Int) - 1 - ((k - 1 : Nat) : Int) = (n : Int) - (k : Int) by omega, show ((k - 1 : Nat) : Int) + 1 = (k : Int) by omega, if_neg (by omega), if_neg (by decide)]

/-- what a call that answers a rune, a width and an error leaves -/
def Ans (w : World) (x : Int × Int × Nat) (at_ : Int) (p : Nat → Addr) (e : Ending) (w' : World) : Prop :=
  Below w.heap.size w w' ∧ ((x.2.2 = 0 ∧ e = .returned (.tuple #[.int .i32 x.1, .int .i64 x.2.1, .nilIface])) ∨
    (x.2.2 ≠ 0 ∧ ∃ v, e = .returned (.tuple #[.int .i32 0, .int .i64 0, v]) ∧ Flt w' v w.heap.size at_ (p x.2.2)))
theorem ans_new {w : World} {x : Int × Int × Nat} {at_ : Int} {p : Nat → Addr} (n : Nat) (hn : n ≠ 0) (h : x = (0, 0, n)) :
    Ans w x at_ p (.returned (.tuple #[.int .i32 0, .int .i64 0, .iface 57 (.pointer (some ⟨w.heap.size, 0, none⟩))])) ((w.alloc (.cells #[.int .i64 at_, .iface 133 (.pointer (some (p n)))] 61)).drew) := by
  subst h
  exact ⟨((Below.refl _ _).alloc (Nat.le_refl _) _).drew, .inr ⟨hn, _, rfl, w.heap.size, Nat.le_refl _, rfl, by simp, by simp⟩⟩

theorem ans_ok {w : World} {x : Int × Int × Nat} {at_ : Int} {p : Nat → Addr} {r n : Int} (h : x = (r, n, 0)) :
    Ans w x at_ p (.returned (.tuple #[.int .i32 r, .int .i64 n, .nilIface])) w := by
  subst h
  exact ⟨Below.refl _ _, .inl ⟨rfl, rfl⟩⟩
set_option maxRecDepth 20000 in
set_option maxHeartbeats 1000000 in
theorem first_any (s : ByteArray) (w : World) (p : Nat → Addr) (hs : s.size ≤ maxLen) (hne : 0 < s.size) (h : Utf.formWidth s[0].toNat ≠ 0)
    (g1 : w.cell? ⟨0, 0, none⟩ = some (.iface 133 (.pointer (some (p 1))))) (g2 : w.cell? ⟨2, 0, none⟩ = some (.iface 133 (.pointer (some (p 2))))) :
    Calls Tryd.prog 57 #[.string s] w (Ans w (Utf.first s.data.toList) 0 p) := by
  unfold maxLen at hs
  have hn := Utf.formWidth_le s[0].toNat
  have hb : (s[0].toNat : Int) < 256 := by have := s[0].toNat_lt; omega
  have hb0 : 0 ≤ (s[0].toNat : Int) := by omega
  have hz : (Utf.formWidth s[0].toNat == 0) = false := by simpa using h
  go_enter Tryd.func57, Tryd.ntmps57
  go_wp2_with (first | (go_at_call 67; refine (formWidth_any _ _).mono ?_; rintro e w' ⟨rfl, rfl⟩) | (go_at_call 68; refine (leadBits_any _ _ _ hb0 hb).mono ?_; rintro e w' ⟨rfl, rfl⟩))
  go_loop [6, 7] (fun r i => ∃ k : Nat, 1 ≤ k ∧ k ≤ s.size ∧ (k : Int) ≤ Utf.formWidth s[0].toNat ∧ i = .int .i64 k ∧ r = .int .i32 (Utf.acc (Utf.leadBits s[0].toNat (Utf.formWidth s[0].toNat)) (tl s k)) ∧ (tl s k).all Utf.cont = true) (fun _ i => s.size - (intOf i).toNat)
  case atStart => exact ⟨1, Nat.le_refl _, hne, by omega, rfl, by rw [tl_one]; rfl, by rw [tl_one]; rfl⟩
  case round =>
    obtain ⟨k, hk1, hk, hkn, rfl, rfl, hall⟩ := hrel
    obtain ⟨a0, a1, a2⟩ := first_inv s k hne h hk1 hk hkn
    have HALL : Hid ((tl s k).all Utf.cont = true) := hall
    clear hall
    by_cases hlt : k < s.size
    · by_cases hkl : (k : Int) < Utf.formWidth s[0].toNat
      · have a2 := a2 hkl
        clear a1
        have hc := Utf.cont_test s[k]
        cases hcc : Utf.cont s[k] <;> rw [hcc] at hc
        · have HF : Hid (Utf.first s.data.toList = (0, 0, 1)) := first_bad s k hne hk1 hlt hkl hcc
          simp only [Bool.not_false] at hc
          go_wp2
          go_region
          go_wp2
          go_ret3
          exact ans_new 1 (by decide) HF.out
        · simp only [Bool.not_true] at hc
          have hcs : ((s[k].toNat : Nat) : Int) < 256 := by have := s[k].toNat_lt; omega
          have HT : Hid (tl s (k + 1) = tl s k ++ [s[k]]) := tl_succ s k hk1 hlt
          have HC : Hid (Utf.cont s[k] = true) := hcc
          clear hcc
          go_wp2
          go_round
          case rel => exact ⟨k + 1, by omega, by omega, by omega, by go_num, by rw [HT.out, Utf.acc_snoc]; go_num, by rw [HT.out, List.all_append, HALL.out]; simp [HC.out]⟩
          case measure => simp [intOf]; omega
      · have HF : Hid _ := first_end s k hne hk1 hk hkn (.inr (by omega)) HALL.out
        have HL := Hid.mk' (leadsToRight_any (Utf.acc (Utf.leadBits s[0].toNat (Utf.formWidth s[0].toNat)) (tl s k)) (Utf.formWidth s[0].toNat) (Utf.formWidth s[0].toNat - k) w a0 (by omega) (by omega) a1)
        clear a1 a2
        cases hv : Utf.ltr (Utf.acc (Utf.leadBits s[0].toNat (Utf.formWidth s[0].toNat)) (tl s k)) (Utf.formWidth s[0].toNat) (Utf.formWidth s[0].toNat - k)
        · have HR := Hid.mk' (HF.out.trans (if_pos hv))
          go_wp2_with (go_at_call 69; refine HL.out.mono ?_; rintro e w' ⟨rfl, rfl⟩)
          go_region
          go_wp2
          go_ret3
          exact ans_new 1 (by decide) HR.out
        · have HR := Hid.mk' (HF.out.trans ((if_neg (by rw [hv]; decide)).trans (if_neg hkl)))
          go_wp2_with (go_at_call 69; refine HL.out.mono ?_; rintro e w' ⟨rfl, rfl⟩)
          go_ret3
          exact ans_ok HR.out
    · have HF : Hid _ := first_end s k hne hk1 hk hkn (.inl (by omega)) HALL.out
      have HL := Hid.mk' (leadsToRight_any (Utf.acc (Utf.leadBits s[0].toNat (Utf.formWidth s[0].toNat)) (tl s k)) (Utf.formWidth s[0].toNat) (Utf.formWidth s[0].toNat - k) w a0 (by omega) (by omega) a1)
      clear a1 a2
      cases hv : Utf.ltr (Utf.acc (Utf.leadBits s[0].toNat (Utf.formWidth s[0].toNat)) (tl s k)) (Utf.formWidth s[0].toNat) (Utf.formWidth s[0].toNat - k)
      · have HR := Hid.mk' (HF.out.trans (if_pos hv))
        by_cases hkl : (k : Int) < Utf.formWidth s[0].toNat
        all_goals
          go_wp2_with (go_at_call 69; refine HL.out.mono ?_; rintro e w' ⟨rfl, rfl⟩)
          go_region
          go_wp2
          go_ret3
          exact ans_new 1 (by decide) HR.out
      · by_cases hkl : (k : Int) < Utf.formWidth s[0].toNat
        · have HR := Hid.mk' (HF.out.trans ((if_neg (by rw [hv]; decide)).trans (if_pos hkl)))
          go_wp2_with (go_at_call 69; refine HL.out.mono ?_; rintro e w' ⟨rfl, rfl⟩)
          go_region
          go_wp2
          go_ret3
          exact ans_new 2 (by decide) HR.out
        · have HR := Hid.mk' (HF.out.trans ((if_neg (by rw [hv]; decide)).trans (if_neg hkl)))
          go_wp2_with (go_at_call 69; refine HL.out.mono ?_; rintro e w' ⟨rfl, rfl⟩)
          go_ret3
          exact ans_ok HR.out

set_option maxHeartbeats 400000 in
theorem first_zero (s : ByteArray) (w : World) (p : Nat → Addr) (_hs : s.size ≤ maxLen) (hne : 0 < s.size) (h : Utf.formWidth s[0].toNat = 0)
    (g1 : w.cell? ⟨0, 0, none⟩ = some (.iface 133 (.pointer (some (p 1))))) :
    Calls Tryd.prog 57 #[.string s] w (Ans w (Utf.first s.data.toList) 0 p) := by
  unfold maxLen at _hs
  have HF := Hid.mk' (first_none s hne h)
  go_enter Tryd.func57, Tryd.ntmps57
  go_wp2_with (go_at_call 67; refine (formWidth_any _ _).mono ?_; rintro e w' ⟨rfl, rfl⟩)
  go_region
  go_wp2
  go_ret3
  exact ans_new 1 (by decide) HF.out
end Go.Proofs.YteflghhpdikidaaDoor

/-
  What is proved here: what the reference's value and some (layer 1) answer.
-/
import Derived.Test.YteflghhpdikidaaDoorFirst
import Derived.Test.YteflghhpdikidaaDoorNext0
import Derived.Test.YteflghhpdikidaaDoorRef1
namespace Go.Proofs.YteflghhpdikidaaDoor
open Go.RowKit

theorem val_tl (s : ByteArray) (hne : 0 < s.size) : Utf.val s.data.toList = if Utf.formWidth s[0].toNat = (s.size : Int) then (if (tl s s.size).all Utf.cont then Utf.acc (Utf.leadBits s[0].toNat (Utf.formWidth s[0].toNat)) (tl s s.size) else -1) else -1 := by
  have hl : s.data.toList.length = s.size := rfl
  have ht : s.data.toList.drop 1 = tl s s.size := by rw [tl, List.take_of_length_le (by omega)]
  have hlt := tl_length s s.size (Nat.le_refl _)
  rw [first_cons s hne, ht, Utf.val, hlt]
  by_cases h : Utf.formWidth s[0].toNat = (s.size : Int)
  · rw [if_pos (by omega), if_pos h]
  · rw [if_neg (by omega), if_neg h]
theorem val_bad (s : ByteArray) (k : Nat) (hne : 0 < s.size) (hk1 : 1 ≤ k) (hk : k < s.size) (hf : Utf.formWidth s[0].toNat = (s.size : Int)) (hc : Utf.cont s[k] = false) : Utf.val s.data.toList = -1 := by
  have hl : s.data.toList.length = s.size := rfl
  have hm : s[k] ∈ tl s s.size := by
    rw [← tl_eq]
    refine List.mem_iff_getElem.2 ⟨k - 1, by simp; omega, ?_⟩
    have e : k - 1 + 1 = k := by omega
    simp only [List.getElem_take, List.getElem_drop, Nat.add_comm 1 (k - 1), e]
    rfl
  have hz : (tl s s.size).all Utf.cont = false := by
    rw [List.all_eq_false]
    exact ⟨s[k], hm, by simp [hc]⟩
  rw [val_tl s hne, if_pos hf, hz]
  rfl

set_option maxRecDepth 20000 in
set_option maxHeartbeats 2000000 in
theorem value_none (s : ByteArray) (w : World) (hs : s.size ≤ 2147483648) (hne : 0 < s.size) (h : Utf.formWidth s[0].toNat ≠ (s.size : Int)) :
    Calls Tryd.prog 59 #[.string s] w fun e w' => e = .returned (.int .i32 (-1)) ∧ w = w' := by
  have hb : (s[0].toNat : Int) < 256 := by have := s[0].toNat_lt; omega
  have hb0 : 0 ≤ (s[0].toNat : Int) := by omega
  have hx : ((s.size ≤ 1 ∧ 128 ≤ (s[0].toNat : Int)) ∨ (2 ≤ s.size ∧ s.size ≤ 2 ∧ (s[0].toNat : Int) < 192) ∨ (2 ≤ s.size ∧ s.size ≤ 2 ∧ 224 ≤ (s[0].toNat : Int)) ∨ (3 ≤ s.size ∧ s.size ≤ 3 ∧ (s[0].toNat : Int) < 224) ∨ (3 ≤ s.size ∧ s.size ≤ 3 ∧ 240 ≤ (s[0].toNat : Int)) ∨ (4 ≤ s.size ∧ s.size ≤ 4 ∧ (s[0].toNat : Int) < 240) ∨ (4 ≤ s.size ∧ s.size ≤ 4 ∧ 248 ≤ (s[0].toNat : Int)) ∨ 5 ≤ s.size) := by
    rcases Utf.lead_cases s[0] with g | ⟨g, g1, g2⟩ | ⟨g, g1, g2, g3⟩ | ⟨g, g1, g2, g3⟩ | ⟨g, g1, g2, g3⟩ <;> rw [g] at h <;> try omega
    unfold Utf.formWidth at g
    (repeat' split at g) <;> omega
  clear h
  rcases hx with ⟨h1, h2⟩ | ⟨h1, h2, h3⟩ | ⟨h1, h2, h3⟩ | ⟨h1, h2, h3⟩ | ⟨h1, h2, h3⟩ | ⟨h1, h2, h3⟩ | ⟨h1, h2, h3⟩ | h1
  all_goals
    go_enter Tryd.func59, Tryd.ntmps59
    go_wp2
    go_ret
    exact ⟨rfl, rfl⟩

theorem cont_ge (c : UInt8) : (Utf.cont c = true → 128 ≤ (c.toNat : Int) ∧ (c.toNat : Int) ≤ 191) ∧ (Utf.cont c = false → (c.toNat : Int) < 128 ∨ 191 < (c.toNat : Int)) := by
  simp only [Utf.cont, Bool.and_eq_true, decide_eq_true_eq, Bool.and_eq_false_iff, decide_eq_false_iff_not]
  omega

set_option maxRecDepth 20000 in
set_option maxHeartbeats 2000000 in
theorem value_some (s : ByteArray) (w : World) (hs : s.size ≤ 2147483648) (hne : 0 < s.size) (h : Utf.formWidth s[0].toNat = (s.size : Int)) :
    Calls Tryd.prog 59 #[.string s] w fun e w' => e = .returned (.int .i32 (Utf.val s.data.toList)) ∧ w = w' := by
  have hb : (s[0].toNat : Int) < 256 := by have := s[0].toNat_lt; omega
  have hb0 : 0 ≤ (s[0].toNat : Int) := by omega
  have hV := val_tl s hne
  rw [if_pos h] at hV
  have HV := Hid.mk' hV
  have HF := Hid.mk' h
  have hx : (s.size ≤ 1 ∧ (s[0].toNat : Int) < 128 ∧ Utf.leadBits s[0].toNat (Utf.formWidth s[0].toNat) = s[0].toNat) ∨ (2 ≤ s.size ∧ s.size ≤ 2 ∧ 192 ≤ (s[0].toNat : Int) ∧ (s[0].toNat : Int) < 224 ∧ Utf.leadBits s[0].toNat (Utf.formWidth s[0].toNat) = (s[0].toNat : Int) - 192) ∨
      (3 ≤ s.size ∧ s.size ≤ 3 ∧ 224 ≤ (s[0].toNat : Int) ∧ (s[0].toNat : Int) < 240 ∧ Utf.leadBits s[0].toNat (Utf.formWidth s[0].toNat) = (s[0].toNat : Int) - 224) ∨ (4 ≤ s.size ∧ s.size ≤ 4 ∧ 240 ≤ (s[0].toNat : Int) ∧ (s[0].toNat : Int) < 248 ∧ Utf.leadBits s[0].toNat (Utf.formWidth s[0].toNat) = (s[0].toNat : Int) - 240) := by
    rcases Utf.lead_cases s[0] with g | ⟨g, g1, g2⟩ | ⟨g, g1, g2, g3⟩ | ⟨g, g1, g2, g3⟩ | ⟨g, g1, g2, g3⟩ <;> rw [g] at h ⊢ <;> omega
  clear h hV
  rcases hx with ⟨h1, h2, h3⟩ | hx
  · have HQ : Hid (Utf.val s.data.toList = (s[0].toNat : Int)) := by
      have e : s.size = 1 := by omega
      show _ = _
      rw [HV.out, e, tl_one, h3]
      rfl
    clear h3
    go_enter Tryd.func59, Tryd.ntmps59
    go_wp2
    go_ret
    rw [HQ.out]
    exact ⟨rfl, rfl⟩
  · rcases hx with ⟨h1, h2, h3, h4, h5⟩ | ⟨h1, h2, h3, h4, h5⟩ | ⟨h1, h2, h3, h4, h5⟩
    all_goals
      have H5 := Hid.mk' h5
      clear h5
      go_enter Tryd.func59, Tryd.ntmps59
      go_wp2
      go_loop [5, 6] (fun r i => ∃ k : Nat, 1 ≤ k ∧ k ≤ s.size ∧ i = .int .i64 k ∧ r = .int .i32 (Utf.acc (Utf.leadBits s[0].toNat (Utf.formWidth s[0].toNat)) (tl s k)) ∧ Hid ((tl s k).all Utf.cont = true)) (fun _ i => s.size - (intOf i).toNat)
      case atStart => exact ⟨1, Nat.le_refl _, hne, rfl, by rw [tl_one, H5.out]; rfl, by show _ = _; rw [tl_one]; rfl⟩
      case round =>
        obtain ⟨k, hk1, hk, rfl, rfl, HALL⟩ := hrel
        obtain ⟨a0, a1, a2⟩ := first_inv s k hne (by rw [HF.out]; omega) hk1 hk (by rw [HF.out]; omega)
        clear a1
        by_cases hlt : k < s.size
        · have a2 := a2 (by rw [HF.out]; omega)
          have hcs : ((s[k].toNat : Nat) : Int) < 256 := by have := s[k].toNat_lt; omega
          have HT : Hid (tl s (k + 1) = tl s k ++ [s[k]]) := tl_succ s k hk1 hlt
          cases hcc : Utf.cont s[k]
          · have HQ := Hid.mk' (val_bad s k hne hk1 hlt HF.out hcc)
            have hz := (cont_ge s[k]).2 hcc
            clear hcc
            rcases hz with hz | hz
            all_goals
              go_wp2
              go_ret
              rw [HQ.out]
              exact ⟨rfl, rfl⟩
          · obtain ⟨z1, z2⟩ := (cont_ge s[k]).1 hcc
            have HC : Hid (Utf.cont s[k] = true) := hcc
            clear hcc
            go_wp2
            go_round
            case rel => exact ⟨k + 1, by omega, by omega, by go_num, congrArg (Value.int .i32) (by rw [HT.out, Utf.acc_snoc]; omega), by show _ = _; rw [HT.out, List.all_append, HALL.out]; simp [HC.out]⟩
            case measure => simp [intOf]; omega
        · have e : k = s.size := by omega
          have HQ : Hid (Utf.val s.data.toList = Utf.acc (Utf.leadBits s[0].toNat (Utf.formWidth s[0].toNat)) (tl s k)) := by
            show _ = _
            rw [HV.out, ← e, HALL.out]
            rfl
          clear a2 e
          go_wp2
          go_ret
          rw [HQ.out]
          exact ⟨rfl, rfl⟩

theorem value_any (s : ByteArray) (w : World) (hs : s.size ≤ 2147483648) (hne : 0 < s.size) :
    Calls Tryd.prog 59 #[.string s] w fun e w' => e = .returned (.int .i32 (Utf.val s.data.toList)) ∧ w = w' := by
  by_cases h : Utf.formWidth s[0].toNat = (s.size : Int)
  · exact value_some s w hs hne h
  · have e : Utf.val s.data.toList = -1 := by rw [val_tl s hne, if_neg h]
    rw [e]
    exact value_none s w hs hne h

theorem some_end {a b n l h : Int} (e1 : Utf.lo n = l) (e2 : Utf.hi n = h) : Utf.someB a b n = decide ((if 55296 ≤ (if a < l then l else a) ∧ (if a < l then l else a) ≤ 57343 then 57344 else (if a < l then l else a)) ≤ (if h < b then h else b)) := by
  rw [Utf.someB, Utf.clip, e1, e2]
set_option maxHeartbeats 1000000 in
theorem some_any (a b n : Int) (w : World) :
    Calls Tryd.prog 62 #[.int .i32 a, .int .i32 b, .int .i64 n] w fun e w' => e = .returned (.bool (Utf.someB a b n)) ∧ w = w' := by
  by_cases h3 : n = 3
  · subst h3
    have HS := Hid.mk' (some_end (a := a) (b := b) (n := 3) (l := 2048) (h := 65535) rfl rfl)
    go_enter Tryd.func62, Tryd.ntmps62
    go_wp2
    all_goals go_ret
    all_goals refine ⟨ret_bool ?_, rfl⟩
    all_goals (rw [HS.out, Bool.eq_iff_iff]; simp only [decide_eq_true_eq, eq_self, true_iff]; (repeat' split) <;> first | omega | (simp; done))
  by_cases h4 : n = 4
  · subst h4
    have HS := Hid.mk' (some_end (a := a) (b := b) (n := 4) (l := 65536) (h := 1114111) rfl rfl)
    go_enter Tryd.func62, Tryd.ntmps62
    go_wp2
    all_goals go_ret
    all_goals refine ⟨ret_bool ?_, rfl⟩
    all_goals (rw [HS.out, Bool.eq_iff_iff]; simp only [decide_eq_true_eq, eq_self, true_iff]; (repeat' split) <;> first | omega | (simp; done))
  · have HS := Hid.mk' (some_end (a := a) (b := b) (n := n) (show Utf.lo n = 128 by simp [Utf.lo, h3, h4]) (show Utf.hi n = 2047 by simp [Utf.hi, h3, h4]))
    have b3 : (n == 3) = false := beq_eq_false_iff_ne.2 h3
    have b4 : (n == 4) = false := beq_eq_false_iff_ne.2 h4
    clear h3 h4
    go_enter Tryd.func62, Tryd.ntmps62
    go_wp2
    all_goals go_ret
    all_goals refine ⟨ret_bool ?_, rfl⟩
    all_goals (rw [HS.out, Bool.eq_iff_iff]; simp only [decide_eq_true_eq, eq_self, true_iff]; (repeat' split) <;> first | omega | (simp; done))
end Go.Proofs.YteflghhpdikidaaDoor

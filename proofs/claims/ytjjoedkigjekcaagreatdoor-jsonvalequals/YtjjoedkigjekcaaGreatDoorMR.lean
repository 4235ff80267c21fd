/-
  What is proved here: what the reference's Right and Form (layer 1) answer. · what the reference's value and some (layer 1) answer. · what the reference's Next (layer 1) answers at a place within a text of at most 60 bytes. · what the reference's Decode (layer 1) answers at every text of at most 60 bytes.
-/
import Derived.Test.YtjjoedkigjekcaaGreatDoorMW
import Derived.BigQuiet
import Derived.Deep.QuietTactic
import Derived.Test.YtjjoedkigjekcaaGreatDoorMU
import Derived.Deep.RegionHeld3
namespace Go.Proofs.YtjjoedkigjekcaaGreatDoor
open Go.RowKit

set_option maxHeartbeats 400000 in
theorem refRight_any (r : Int) (w : World) :
    Calls Tryz.prog 116 #[.int .i32 r] w fun e w' => e = .returned (.bool (decide (0 < Utf.width r))) ∧ w = w' := by
  go_enter Tryz.func116, Tryz.ntmps116
  go_wp2
  all_goals go_ret
  all_goals refine ⟨ret_bool ?_, rfl⟩
  all_goals (unfold Utf.width; rw [Bool.eq_iff_iff]; simp; (repeat' split) <;> omega)
/-- a new slice of bytes, as a text -/
theorem conv_newR (w : World) (bs : List Int) :
    (convert 63 9 (.slice (some ⟨w.heap.size, 0, none⟩) bs.length bs.length)).run Tryz.prog (w.alloc (.cells (bs.map (Value.int .u8)).toArray 5)) = .ok (.string (strOfNums bs)) (w.alloc (.cells (bs.map (Value.int .u8)).toArray 5)) := by
  refine run_convert_bytes_arg _ 63 5 Tryz.underlying63 Tryz.underlying5 w.heap.size 0 _ _ bs rfl (fun j hj => ?_) _ Tryz.underlying9
  rw [Nat.zero_add, World.cell?_alloc_new]
  simp [List.getElem?_eq_getElem hj]
set_option maxRecDepth 20000 in
set_option maxHeartbeats 1000000 in
theorem refForm_any (r : Int) (w : World) (hr : 0 < Utf.width r) :
    Calls Tryz.prog 117 #[.int .i32 r] w fun e w' => e = .returned (.string (strOfNums (Utf.form r))) ∧ Below w.heap.size w w' := by
  have hb : (0 ≤ r ∧ r < 128) ∨ (128 ≤ r ∧ r < 2048) ∨ (2048 ≤ r ∧ r < 65536) ∨ (65536 ≤ r ∧ r ≤ 1114111) := by unfold Utf.width at hr; (repeat' split at hr) <;> omega
  clear hr
  rcases hb with ⟨h0, h1⟩ | ⟨h0, h1⟩ | ⟨h0, h1⟩ | ⟨h0, h1⟩
  · have HF : Hid (Utf.form r = [r]) := if_pos h1
    have hc := conv_newR w [r]
    simp only [List.map_cons, List.map_nil, List.length_cons, List.length_nil, Nat.zero_add] at hc
    go_enter Tryz.func117, Tryz.ntmps117
    go_wp2
    go_ret
    rw [HF.out]
    exact ⟨rfl, (Below.refl _ _).alloc (Nat.le_refl _) _⟩
  · have HF : Hid (Utf.form r = [192 + r / 64, 128 + r % 64]) := (if_neg (by omega)).trans (if_pos h1)
    have hc := conv_newR w [192 + r / 64, 128 + r % 64]
    simp only [List.map_cons, List.map_nil, List.length_cons, List.length_nil, Nat.zero_add, Nat.reduceAdd] at hc
    go_enter Tryz.func117, Tryz.ntmps117
    go_wp2
    go_ret
    rw [HF.out]
    exact ⟨rfl, (Below.refl _ _).alloc (Nat.le_refl _) _⟩
  · have HF : Hid (Utf.form r = [224 + r / 4096, 128 + r / 64 % 64, 128 + r % 64]) := (if_neg (by omega)).trans ((if_neg (by omega)).trans (if_pos h1))
    have hc := conv_newR w [224 + r / 4096, 128 + r / 64 % 64, 128 + r % 64]
    simp only [List.map_cons, List.map_nil, List.length_cons, List.length_nil, Nat.zero_add, Nat.reduceAdd] at hc
    go_enter Tryz.func117, Tryz.ntmps117
    go_wp2
    go_ret
    rw [HF.out]
    exact ⟨rfl, (Below.refl _ _).alloc (Nat.le_refl _) _⟩
  · have HF : Hid (Utf.form r = [240 + r / 262144, 128 + r / 4096 % 64, 128 + r / 64 % 64, 128 + r % 64]) := (if_neg (by omega)).trans ((if_neg (by omega)).trans (if_neg (by omega)))
    have hc := conv_newR w [240 + r / 262144, 128 + r / 4096 % 64, 128 + r / 64 % 64, 128 + r % 64]
    simp only [List.map_cons, List.map_nil, List.length_cons, List.length_nil, Nat.zero_add, Nat.reduceAdd] at hc
    go_enter Tryz.func117, Tryz.ntmps117
    go_wp2
    go_ret
    rw [HF.out]
    exact ⟨rfl, (Below.refl _ _).alloc (Nat.le_refl _) _⟩
theorem strOfNums_append (a b : List Int) : strOfNums a ++ strOfNums b = strOfNums (a ++ b) := by
  apply ByteArray.ext
  simp [strOfNums]
end Go.Proofs.YtjjoedkigjekcaaGreatDoor
namespace Go.Proofs.YtjjoedkigjekcaaGreatDoor
open Go.RowKit

theorem val_tl (s : ByteArray) (hne : 0 < s.size) : Utf.val s.data.toList = if Utf.formWidth s[0].toNat = (s.size : Int) then (if (tl s s.size).all Utf.cont then Utf.acc (Utf.leadBits s[0].toNat (Utf.formWidth s[0].toNat)) (tl s s.size) else -1) else -1 := by
  have hl : s.data.toList.length = s.size := rfl
  have ht : s.data.toList.drop 1 = tl s s.size := by rw [tl, List.take_of_length_le (by omega)]
  have hlt := tl_length s s.size (Nat.le_refl _)
  rw [first_cons s hne, ht, Utf.val, hlt]
  by_cases h : Utf.formWidth s[0].toNat = (s.size : Int)
  · rw [if_pos (by omega), if_pos h]
  · rw [if_neg (by omega), if_neg h]
theorem val_bad (s : ByteArray) (k : Nat) (hne : 0 < s.size) (hk1 : 1 ≤ k) (hk : k < s.size) (hf : Utf.formWidth s[0].toNat = (s.size : Int)) (hc : Utf.cont s[k] = false) : Utf.val s.data.toList = -1 := by
  have hl : s.data.toList.length = s.size := rfl
  have hm : s[k] ∈ tl s s.size := by
    rw [← tl_eq]
    refine List.mem_iff_getElem.2 ⟨k - 1, by simp; omega, ?_⟩
    have e : k - 1 + 1 = k := by omega
    simp only [List.getElem_take, List.getElem_drop, Nat.add_comm 1 (k - 1), e]
    rfl
  have hz : (tl s s.size).all Utf.cont = false := by
    rw [List.all_eq_false]
    exact ⟨s[k], hm, by simp [hc]⟩
  rw [val_tl s hne, if_pos hf, hz]
  rfl

set_option maxRecDepth 20000 in
set_option maxHeartbeats 2000000 in
theorem value_none (s : ByteArray) (w : World) (hs : s.size ≤ 2147483648) (hne : 0 < s.size) (h : Utf.formWidth s[0].toNat ≠ (s.size : Int)) :
    Calls Tryz.prog 115 #[.string s] w fun e w' => e = .returned (.int .i32 (-1)) ∧ w = w' := by
  have hb : (s[0].toNat : Int) < 256 := by have := s[0].toNat_lt; omega
  have hb0 : 0 ≤ (s[0].toNat : Int) := by omega
  have hx : ((s.size ≤ 1 ∧ 128 ≤ (s[0].toNat : Int)) ∨ (2 ≤ s.size ∧ s.size ≤ 2 ∧ (s[0].toNat : Int) < 192) ∨ (2 ≤ s.size ∧ s.size ≤ 2 ∧ 224 ≤ (s[0].toNat : Int)) ∨ (3 ≤ s.size ∧ s.size ≤ 3 ∧ (s[0].toNat : Int) < 224) ∨ (3 ≤ s.size ∧ s.size ≤ 3 ∧ 240 ≤ (s[0].toNat : Int)) ∨ (4 ≤ s.size ∧ s.size ≤ 4 ∧ (s[0].toNat : Int) < 240) ∨ (4 ≤ s.size ∧ s.size ≤ 4 ∧ 248 ≤ (s[0].toNat : Int)) ∨ 5 ≤ s.size) := by
    rcases Utf.lead_cases s[0] with g | ⟨g, g1, g2⟩ | ⟨g, g1, g2, g3⟩ | ⟨g, g1, g2, g3⟩ | ⟨g, g1, g2, g3⟩ <;> rw [g] at h <;> try omega
    unfold Utf.formWidth at g
    (repeat' split at g) <;> omega
  clear h
  rcases hx with ⟨h1, h2⟩ | ⟨h1, h2, h3⟩ | ⟨h1, h2, h3⟩ | ⟨h1, h2, h3⟩ | ⟨h1, h2, h3⟩ | ⟨h1, h2, h3⟩ | ⟨h1, h2, h3⟩ | h1
  all_goals
    go_enter Tryz.func115, Tryz.ntmps115
    go_wp2
    go_ret
    exact ⟨rfl, rfl⟩

theorem cont_ge (c : UInt8) : (Utf.cont c = true → 128 ≤ (c.toNat : Int) ∧ (c.toNat : Int) ≤ 191) ∧ (Utf.cont c = false → (c.toNat : Int) < 128 ∨ 191 < (c.toNat : Int)) := by
  simp only [Utf.cont, Bool.and_eq_true, decide_eq_true_eq, Bool.and_eq_false_iff, decide_eq_false_iff_not]
  omega

set_option maxRecDepth 20000 in
set_option maxHeartbeats 2000000 in
theorem value_some (s : ByteArray) (w : World) (hs : s.size ≤ 2147483648) (hne : 0 < s.size) (h : Utf.formWidth s[0].toNat = (s.size : Int)) :
    Calls Tryz.prog 115 #[.string s] w fun e w' => e = .returned (.int .i32 (Utf.val s.data.toList)) ∧ w = w' := by
  have hb : (s[0].toNat : Int) < 256 := by have := s[0].toNat_lt; omega
  have hb0 : 0 ≤ (s[0].toNat : Int) := by omega
  have hV := val_tl s hne
  rw [if_pos h] at hV
  have HV := Hid.mk' hV
  have HF := Hid.mk' h
  have hx : (s.size ≤ 1 ∧ (s[0].toNat : Int) < 128 ∧ Utf.leadBits s[0].toNat (Utf.formWidth s[0].toNat) = s[0].toNat) ∨ (2 ≤ s.size ∧ s.size ≤ 2 ∧ 192 ≤ (s[0].toNat : Int) ∧ (s[0].toNat : Int) < 224 ∧ Utf.leadBits s[0].toNat (Utf.formWidth s[0].toNat) = (s[0].toNat : Int) - 192) ∨
      (3 ≤ s.size ∧ s.size ≤ 3 ∧ 224 ≤ (s[0].toNat : Int) ∧ (s[0].toNat : Int) < 240 ∧ Utf.leadBits s[0].toNat (Utf.formWidth s[0].toNat) = (s[0].toNat : Int) - 224) ∨ (4 ≤ s.size ∧ s.size ≤ 4 ∧ 240 ≤ (s[0].toNat : Int) ∧ (s[0].toNat : Int) < 248 ∧ Utf.leadBits s[0].toNat (Utf.formWidth s[0].toNat) = (s[0].toNat : Int) - 240) := by
    rcases Utf.lead_cases s[0] with g | ⟨g, g1, g2⟩ | ⟨g, g1, g2, g3⟩ | ⟨g, g1, g2, g3⟩ | ⟨g, g1, g2, g3⟩ <;> rw [g] at h ⊢ <;> omega
  clear h hV
  rcases hx with ⟨h1, h2, h3⟩ | hx
  · have HQ : Hid (Utf.val s.data.toList = (s[0].toNat : Int)) := by
      have e : s.size = 1 := by omega
      show _ = _
      rw [HV.out, e, tl_one, h3]
      rfl
    clear h3
    go_enter Tryz.func115, Tryz.ntmps115
    go_wp2
    go_ret
    rw [HQ.out]
    exact ⟨rfl, rfl⟩
  · rcases hx with ⟨h1, h2, h3, h4, h5⟩ | ⟨h1, h2, h3, h4, h5⟩ | ⟨h1, h2, h3, h4, h5⟩
    all_goals
      have H5 := Hid.mk' h5
      clear h5
      go_enter Tryz.func115, Tryz.ntmps115
      go_wp2
      go_loop [5, 6] (fun r i => ∃ k : Nat, 1 ≤ k ∧ k ≤ s.size ∧ i = .int .i64 k ∧ r = .int .i32 (Utf.acc (Utf.leadBits s[0].toNat (Utf.formWidth s[0].toNat)) (tl s k)) ∧ Hid ((tl s k).all Utf.cont = true)) (fun _ i => s.size - (intOf i).toNat)
      case atStart => exact ⟨1, Nat.le_refl _, hne, rfl, by rw [tl_one, H5.out]; rfl, by show _ = _; rw [tl_one]; rfl⟩
      case round =>
        obtain ⟨k, hk1, hk, rfl, rfl, HALL⟩ := hrel
        obtain ⟨a0, a1, a2⟩ := first_inv s k hne (by rw [HF.out]; omega) hk1 hk (by rw [HF.out]; omega)
        clear a1
        by_cases hlt : k < s.size
        · have a2 := a2 (by rw [HF.out]; omega)
          have hcs : ((s[k].toNat : Nat) : Int) < 256 := by have := s[k].toNat_lt; omega
          have HT : Hid (tl s (k + 1) = tl s k ++ [s[k]]) := tl_succ s k hk1 hlt
          cases hcc : Utf.cont s[k]
          · have HQ := Hid.mk' (val_bad s k hne hk1 hlt HF.out hcc)
            have hz := (cont_ge s[k]).2 hcc
            clear hcc
            rcases hz with hz | hz
            all_goals
              go_wp2
              go_ret
              rw [HQ.out]
              exact ⟨rfl, rfl⟩
          · obtain ⟨z1, z2⟩ := (cont_ge s[k]).1 hcc
            have HC : Hid (Utf.cont s[k] = true) := hcc
            clear hcc
            go_wp2
            go_round
            case rel => exact ⟨k + 1, by omega, by omega, by go_num, congrArg (Value.int .i32) (by rw [HT.out, Utf.acc_snoc]; omega), by show _ = _; rw [HT.out, List.all_append, HALL.out]; simp [HC.out]⟩
            case measure => simp [intOf]; omega
        · have e : k = s.size := by omega
          have HQ : Hid (Utf.val s.data.toList = Utf.acc (Utf.leadBits s[0].toNat (Utf.formWidth s[0].toNat)) (tl s k)) := by
            show _ = _
            rw [HV.out, ← e, HALL.out]
            rfl
          clear a2 e
          go_wp2
          go_ret
          rw [HQ.out]
          exact ⟨rfl, rfl⟩

theorem value_any (s : ByteArray) (w : World) (hs : s.size ≤ 2147483648) (hne : 0 < s.size) :
    Calls Tryz.prog 115 #[.string s] w fun e w' => e = .returned (.int .i32 (Utf.val s.data.toList)) ∧ w = w' := by
  by_cases h : Utf.formWidth s[0].toNat = (s.size : Int)
  · exact value_some s w hs hne h
  · have e : Utf.val s.data.toList = -1 := by rw [val_tl s hne, if_neg h]
    rw [e]
    exact value_none s w hs hne h

theorem some_end {a b n l h : Int} (e1 : Utf.lo n = l) (e2 : Utf.hi n = h) : Utf.someB a b n = decide ((if 55296 ≤ (if a < l then l else a) ∧ (if a < l then l else a) ≤ 57343 then 57344 else (if a < l then l else a)) ≤ (if h < b then h else b)) := by
  rw [Utf.someB, Utf.clip, e1, e2]
set_option maxHeartbeats 1000000 in
theorem some_any (a b n : Int) (w : World) :
    Calls Tryz.prog 118 #[.int .i32 a, .int .i32 b, .int .i64 n] w fun e w' => e = .returned (.bool (Utf.someB a b n)) ∧ w = w' := by
  by_cases h3 : n = 3
  · subst h3
    have HS := Hid.mk' (some_end (a := a) (b := b) (n := 3) (l := 2048) (h := 65535) rfl rfl)
    go_enter Tryz.func118, Tryz.ntmps118
    go_wp2
    all_goals go_ret
    all_goals refine ⟨ret_bool ?_, rfl⟩
    all_goals (rw [HS.out, Bool.eq_iff_iff]; simp only [decide_eq_true_eq, eq_self, true_iff]; (repeat' split) <;> first | omega | (simp; done))
  by_cases h4 : n = 4
  · subst h4
    have HS := Hid.mk' (some_end (a := a) (b := b) (n := 4) (l := 65536) (h := 1114111) rfl rfl)
    go_enter Tryz.func118, Tryz.ntmps118
    go_wp2
    all_goals go_ret
    all_goals refine ⟨ret_bool ?_, rfl⟩
    all_goals (rw [HS.out, Bool.eq_iff_iff]; simp only [decide_eq_true_eq, eq_self, true_iff]; (repeat' split) <;> first | omega | (simp; done))
  · have HS := Hid.mk' (some_end (a := a) (b := b) (n := n) (show Utf.lo n = 128 by simp [Utf.lo, h3, h4]) (show Utf.hi n = 2047 by simp [Utf.hi, h3, h4]))
    have b3 : (n == 3) = false := beq_eq_false_iff_ne.2 h3
    have b4 : (n == 4) = false := beq_eq_false_iff_ne.2 h4
    clear h3 h4
    go_enter Tryz.func118, Tryz.ntmps118
    go_wp2
    all_goals go_ret
    all_goals refine ⟨ret_bool ?_, rfl⟩
    all_goals (rw [HS.out, Bool.eq_iff_iff]; simp only [decide_eq_true_eq, eq_self, true_iff]; (repeat' split) <;> first | omega | (simp; done))
end Go.Proofs.YtjjoedkigjekcaaGreatDoor
namespace Go.Proofs.YtjjoedkigjekcaaGreatDoor
open Go.RowKit

theorem cutN_toList (s : ByteArray) (k n : Nat) (_h : k + n ≤ s.size) : (s.extract k (k + n)).data.toList = (s.data.toList.drop k).take n := by
  rw [Lib.extract_data, show k + n - k = n by omega]
theorem cutN_size (s : ByteArray) (k n : Nat) (h : k + n ≤ s.size) : (s.extract k (k + n)).size = n := by
  have : (s.extract k (k + n)).data.toList.length = (s.extract k (k + n)).size := rfl
  rw [← this, cutN_toList s k n h, List.length_take, List.length_drop]
  have : s.data.toList.length = s.size := rfl
  omega

/-- a text's size, of a value -/
def szOf : Value → Nat
  | .string s => s.size
  | _ => 0
theorem push_list (x : ByteArray) (c : UInt8) : (x ++ (⟨#[c]⟩ : ByteArray)).data.toList = x.data.toList ++ [c] := by simp
theorem push_size (x : ByteArray) (c : UInt8) : (x ++ (⟨#[c]⟩ : ByteArray)).size = x.size + 1 := by
  have h1 : (x ++ (⟨#[c]⟩ : ByteArray)).data.toList.length = (x ++ (⟨#[c]⟩ : ByteArray)).size := rfl
  have h2 : x.data.toList.length = x.size := rfl
  rw [← h1, push_list, List.length_append, h2]; rfl
theorem rep_snoc (c : Nat) (b : UInt8) : List.replicate c b ++ [b] = List.replicate (c + 1) b := by
  rw [List.replicate_succ']

set_option maxRecDepth 20000 in
set_option maxHeartbeats 4000000 in
theorem refNext_any (s : ByteArray) (k : Nat) (w : World) (hs : s.size ≤ 4000) (hk : k < s.size) :
    Calls Tryz.prog 102 #[.string s, .int .i64 k] w fun e w' => e = .returned (.tuple #[.int .i32 (Utf.first (s.data.toList.drop k)).1, .int .i64 (Utf.first (s.data.toList.drop k)).2.1, .int .i64 (Utf.first (s.data.toList.drop k)).2.2]) ∧ Below w.heap.size w w' := by
  have hll : (s.data.toList.drop k).length = s.size - k := by rw [List.length_drop]; rfl
  have HLL := Hid.mk' hll
  clear hll
  generalize hl : s.data.toList.drop k = l at HLL
  have HL := Hid.mk' hl
  clear hl
  go_enter Tryz.func102, Tryz.ntmps102
  go_wp2
  go_loopw [7] (fun i wr => ∃ n : Nat, 1 ≤ n ∧ n ≤ 5 ∧ k + n ≤ s.size + 1 ∧ i = .int .i64 n ∧ Below w.heap.size w wr ∧ Hid (∀ j, 1 ≤ j → j < n → Utf.first l ≠ (Utf.val (l.take j), (j : Int), 0))) (fun i _ => 5 - (intOf i).toNat)
  case atStart => exact ⟨1, Nat.le_refl _, by omega, by omega, rfl, Below.refl _ _, fun j h1 h2 => by omega⟩
  case round =>
    obtain ⟨n, hn1, hn5, hkn, rfl, hbel, HN⟩ := hrel
    by_cases hlt : n ≤ 4 ∧ k + n ≤ s.size
    · obtain ⟨h4, h5⟩ := hlt
      have hsz := cutN_size s k n h5
      have HV : Hid (∀ wx, _) := fun wx => value_any (s.extract k (k + n)) wx (by omega) (by omega)
      rw [cutN_toList s k n h5, HL.out] at HV
      generalize hr : Utf.val (l.take n) = r at HV
      have HR := Hid.mk' hr
      clear hr hsz
      have d4 : decide ((n : Int) ≤ 4) = true := by simp; omega
      have d5 : decide ((k : Int) + (n : Int) ≤ (s.size : Int)) = true := by simp; omega
      have HS : Hid (Utf.first l ≠ (r, (n : Int), 0) → ∀ j, 1 ≤ j → j < n + 1 → Utf.first l ≠ (Utf.val (l.take j), (j : Int), 0)) := fun hx j h1 h2 => by
        by_cases e : j = n
        · subst e; rw [HR.out]; exact hx
        · exact HN.out j h1 (by omega)
      by_cases hr0 : 0 ≤ r
      · have d0 : decide (0 ≤ r) = true := by simpa using hr0
        by_cases hw : 0 < Utf.width r
        · have dw : decide (0 < Utf.width r) = true := by simpa using hw
          by_cases hf : (Utf.form r).map Utf.u8 = l.take n
          · have HF : Hid (Utf.first l = (r, (n : Int), 0)) := Utf.next_found hw hf (by rw [HLL.out]; omega)
            have hstr : strOfNums (Utf.form r) = s.extract k (k + n) := by
              have : (strOfNums (Utf.form r)).data.toList = (s.extract k (k + n)).data.toList := by rw [strOfNums_data, cutN_toList s k n h5, HL.out]; exact hf
              exact ByteArray.ext (Array.ext' this)
            have HG : Hid (∀ wx, Calls Tryz.prog 117 #[.int .i32 r] wx fun e w' => e = .returned (.string (s.extract k (k + n))) ∧ Below wx.heap.size wx w') := fun wx => by
              have := refForm_any r wx hw
              rw [hstr] at this
              exact this
            clear hstr hf hw
            have z1 : (0 : Int) ≤ (k : Int) := by omega
            have z2 : (k : Int) ≤ (k : Int) + (n : Int) := by omega
            have z3 : (k : Int) + (n : Int) ≤ (s.size : Int) := by omega
            have z4 : IntKind.i64.wrap ((k : Int) + (n : Int)) = (k : Int) + (n : Int) := by rw [IntKind.wrap_i64]; omega
            have z5 : ((k : Int) + (n : Int)).toNat = k + n := by omega
            go_wp2_with (go_at_call 115; refine (HV.out _).mono ?_; rintro e w' ⟨rfl, rfl⟩)
            go_region_held3 (fun _ => True) (trivial) (first | (go_at_call 116; refine (refRight_any _ _).mono ?_; rintro e w' ⟨rfl, rfl⟩) | (go_at_call 117; refine (HG.out _).mono ?_; rintro e w4 ⟨rfl, hb4⟩))
            go_wp2
            go_ret3
            rw [HF.out]
            exact ⟨rfl, hbel.drew.trans (hb4.mono hbel.size)⟩
          · have HNF : Hid (Utf.first l ≠ (r, (n : Int), 0)) := fun e => hf (Utf.first_form e ▸ rfl)
            have hstr : ((strOfNums (Utf.form r)).toList == (s.extract k (k + n)).toList) = false := by
              rw [beq_eq_false_iff_ne, ByteArray.toList_eq, ByteArray.toList_eq, cutN_toList s k n h5, HL.out, strOfNums_data]
              exact hf
            have HG : Hid (∀ wx, _) := fun wx => refForm_any r wx hw
            generalize strOfNums (Utf.form r) = y at HG hstr
            clear hf hw
            have z1 : (0 : Int) ≤ (k : Int) := by omega
            have z2 : (k : Int) ≤ (k : Int) + (n : Int) := by omega
            have z3 : (k : Int) + (n : Int) ≤ (s.size : Int) := by omega
            have z4 : IntKind.i64.wrap ((k : Int) + (n : Int)) = (k : Int) + (n : Int) := by rw [IntKind.wrap_i64]; omega
            have z5 : ((k : Int) + (n : Int)).toNat = k + n := by omega
            go_wp2_with (go_at_call 115; refine (HV.out _).mono ?_; rintro e w' ⟨rfl, rfl⟩)
            go_region_held3 (fun _ => True) (trivial) (first | (go_at_call 116; refine (refRight_any _ _).mono ?_; rintro e w' ⟨rfl, rfl⟩) | (go_at_call 117; refine (HG.out _).mono ?_; rintro e w4 ⟨rfl, hb4⟩))
            go_wp2
            go_roundw
            case rel => exact ⟨n + 1, by omega, by omega, by omega, by go_num, hbel.drew.trans (hb4.mono hbel.size), HS.out HNF.out⟩
            case measure => simp [intOf]; omega
        · have dw : decide (0 < Utf.width r) = false := by simpa using hw
          have HNF : Hid (Utf.first l ≠ (r, (n : Int), 0)) := fun e => by have := Utf.first_width e; omega
          clear hw
          go_wp2_with (go_at_call 115; refine (HV.out _).mono ?_; rintro e w' ⟨rfl, rfl⟩)
          go_quiet ((go_at_call 116; exact Calls.quiet_of_same ((refRight_any _ _).mono (fun _ _ h => ⟨h.1, h.2.symm⟩))))
          go_wp2
          go_roundw
          case rel => exact ⟨n + 1, by omega, by omega, by omega, by go_num, below_drewN hbel _, HS.out HNF.out⟩
          case measure => simp [intOf]; omega
      · have d0 : decide (0 ≤ r) = false := by simpa using hr0
        have HNF : Hid (Utf.first l ≠ (r, (n : Int), 0)) := fun e => by have := Utf.first_width e; omega
        clear hr0
        go_wp2_with (go_at_call 115; refine (HV.out _).mono ?_; rintro e w' ⟨rfl, rfl⟩)
        go_quiet (fail)
        go_wp2
        go_roundw
        case rel => exact ⟨n + 1, by omega, by omega, by omega, by go_num, below_drewN hbel _, HS.out HNF.out⟩
        case measure => simp [intOf]; omega
    · have HC : Hid ((Utf.first l).2.2 ≠ 0) := fun hc => by
        obtain ⟨r, m, hf⟩ : ∃ r m, Utf.first l = (r, m, 0) := ⟨_, _, Prod.ext rfl (Prod.ext rfl hc)⟩
        have hw := Utf.first_width hf
        rw [HLL.out] at hw
        have hv := (Utf.next_val hf).1
        refine HN.out m.toNat (by omega) (by omega) ?_
        rw [hv, hf, show ((m.toNat : Nat) : Int) = m by omega]
      clear HN
      have hrest := cut_size s k
      have HRT : Hid ((s.extract k s.size).data.toList = l) := by show _ = _; rw [cut_toList, HL.out]
      have HNE : Hid (l ≠ []) := fun e => by have := HLL.out; rw [e] at this; simp at this; omega
      have hx : 4 < n ∨ (n ≤ 4 ∧ s.size < k + n) := by omega
      clear hlt
      rcases hx with hx | ⟨hx, hx'⟩
      · go_wp2
        go_loopw [10] (fun i wq => ∃ m : Nat, s.size - k + 1 ≤ m ∧ m ≤ s.size + 1 ∧ i = .int .i64 m ∧ Below w.heap.size w wq) (fun i _ => 5 - (intOf i).toNat)
        case atStart => exact ⟨s.size - k + 1, Nat.le_refl _, by omega, by go_num, hbel⟩
        case round =>
          obtain ⟨m, hm1, hm3, rfl, hbq⟩ := hrel
          have HF : Hid (Utf.first l = (0, 0, 1)) := by
            rcases Utf.code_cases l with h | h | h
            · exact absurd h HC.out
            · exact h
            · obtain ⟨j, j1, j2, j3⟩ := (Utf.code_ends HNE.out HC.out).1 h
              rw [HLL.out] at j1
              omega
          go_wp2
          go_ret3
          rw [HF.out]
          exact ⟨rfl, hbq⟩
      · go_wp2
        go_loopw [10] (fun i wq => ∃ m : Nat, s.size - k + 1 ≤ m ∧ (m ≤ 5 ∨ m = s.size - k + 1) ∧ i = .int .i64 m ∧ Below w.heap.size w wq ∧ Hid (∀ j, l.length < j → j < m → Utf.endsAt l j = false)) (fun i _ => 5 - (intOf i).toNat)
        case atStart => exact ⟨s.size - k + 1, Nat.le_refl _, .inr rfl, by go_num, hbel, fun j h1 h2 => by rw [HLL.out] at h1; omega⟩
        case round =>
          obtain ⟨m, hm1, hm2, rfl, hbq, HM⟩ := hrel
          by_cases h4 : m ≤ 4
          · go_wp2
            go_loopw [11, 12] (fun lo hi wq => ∃ (c : Nat) (x y : ByteArray), lo = .string x ∧ hi = .string y ∧ s.size - k + c ≤ m ∧ x.size = s.size - k + c ∧ y.size = s.size - k + c ∧ Hid (x.data.toList = l ++ List.replicate c 128) ∧ Hid (y.data.toList = l ++ List.replicate c 191) ∧ Below w.heap.size w wq) (fun lo _ _ => m - szOf lo)
            case atStart => exact ⟨0, _, _, rfl, rfl, by omega, by rw [hrest]; omega, by rw [hrest]; omega, by show _ = _; rw [HRT.out]; simp, by show _ = _; rw [HRT.out]; simp, hbq⟩
            case round =>
              obtain ⟨c, x, y, rfl, rfl, hc, hxs, hys, HX, HY, hbp⟩ := hrel
              have hxm : x.size ≤ 4 := by omega
              have hym : y.size ≤ 4 := by omega
              by_cases hcm : s.size - k + c < m
              · have hxl : x.size < m := by omega
                have SX := Hid.mk' hxs
                have SY := Hid.mk' hys
                clear hxs hys
                go_wp2
                go_roundw
                case rel => exact ⟨c + 1, _, _, rfl, rfl, by omega, by rw [push_size, SX.out]; omega, by rw [push_size, SY.out]; omega, by show _ = _; rw [push_list, HX.out, List.append_assoc, rep_snoc], by show _ = _; rw [push_list, HY.out, List.append_assoc, rep_snoc], hbp⟩
                case measure => simp only [szOf, push_size]; omega
              · have hce : c = m - l.length := by rw [HLL.out]; omega
                have hxl : ¬ x.size < m := by omega
                have HVx := Hid.mk' (value_any x wr (by omega) (by omega))
                have HVy := Hid.mk' (value_any y wr (by omega) (by omega))
                rw [HX.out, hce] at HVx
                rw [HY.out, hce] at HVy
                have HE : Hid (Utf.endsAt l m = (decide (0 ≤ Utf.val (l ++ List.replicate (m - l.length) 128)) && decide (0 ≤ Utf.val (l ++ List.replicate (m - l.length) 191)) && Utf.someB (Utf.val (l ++ List.replicate (m - l.length) 128)) (Utf.val (l ++ List.replicate (m - l.length) 191)) m)) := rfl
                have HM2 : Hid (Utf.endsAt l m = false → ∀ j, l.length < j → j < m + 1 → Utf.endsAt l j = false) := fun hx j h1 h2 => by
                  by_cases e : j = m
                  · subst e; exact hx
                  · exact HM.out j h1 (by omega)
                have HT : Hid (Utf.endsAt l m = true → Utf.first l = (0, 0, 2)) := fun hx => (Utf.code_ends HNE.out HC.out).2 ⟨m, by rw [HLL.out]; omega, h4, hx⟩
                generalize Utf.val (l ++ List.replicate (m - l.length) 128) = p at HVx HE
                generalize Utf.val (l ++ List.replicate (m - l.length) 191) = q at HVy HE
                generalize Utf.endsAt l m = en at HE HM2 HT
                clear hce hxs hys
                by_cases hp : 0 ≤ p
                · have dp : decide (0 ≤ p) = true := by simpa using hp
                  by_cases hq : 0 ≤ q
                  · have dq : decide (0 ≤ q) = true := by simpa using hq
                    cases hsm : Utf.someB p q m
                    · have he := HE.out
                      rw [dp, dq, hsm] at he
                      have HF := Hid.mk' (HM2.out he)
                      clear he
                      go_wp2_with fail
                      refine HVx.out.mono ?_
                      rintro e w5 ⟨rfl, rfl⟩
                      go_wp2_with fail
                      refine HVy.out.mono ?_
                      rintro e w5 ⟨rfl, rfl⟩
                      go_wp2_with (go_at_call 118; refine (some_any _ _ _ _).mono ?_; rintro e w6 ⟨rfl, rfl⟩)
                      go_roundw
                      case rel => exact ⟨m + 1, by omega, .inl (by omega), by go_num, hbp, HF.out⟩
                      case measure => simp [intOf]; omega
                    · have he := HE.out
                      rw [dp, dq, hsm] at he
                      have HF := Hid.mk' (HT.out he)
                      clear he
                      go_wp2_with fail
                      refine HVx.out.mono ?_
                      rintro e w5 ⟨rfl, rfl⟩
                      go_wp2_with fail
                      refine HVy.out.mono ?_
                      rintro e w5 ⟨rfl, rfl⟩
                      go_wp2_with (go_at_call 118; refine (some_any _ _ _ _).mono ?_; rintro e w6 ⟨rfl, rfl⟩)
                      go_ret3
                      rw [HF.out]
                      exact ⟨rfl, hbp⟩
                  · have dq : decide (0 ≤ q) = false := by simpa using hq
                    have he := HE.out
                    rw [dp, dq] at he
                    have HF := Hid.mk' (HM2.out he)
                    clear he hq
                    go_wp2_with fail
                    refine HVx.out.mono ?_
                    rintro e w5 ⟨rfl, rfl⟩
                    go_wp2_with fail
                    refine HVy.out.mono ?_
                    rintro e w5 ⟨rfl, rfl⟩
                    go_wp2
                    go_roundw
                    case rel => exact ⟨m + 1, by omega, .inl (by omega), by go_num, hbp, HF.out⟩
                    case measure => simp [intOf]; omega
                · have dp : decide (0 ≤ p) = false := by simpa using hp
                  have he := HE.out
                  rw [dp] at he
                  have HF := Hid.mk' (HM2.out he)
                  clear he hp
                  go_wp2_with fail
                  refine HVx.out.mono ?_
                  rintro e w5 ⟨rfl, rfl⟩
                  go_wp2_with fail
                  refine HVy.out.mono ?_
                  rintro e w5 ⟨rfl, rfl⟩
                  go_wp2
                  go_roundw
                  case rel => exact ⟨m + 1, by omega, .inl (by omega), by go_num, hbp, HF.out⟩
                  case measure => simp [intOf]; omega
          · have HF : Hid (Utf.first l = (0, 0, 1)) := by
              rcases Utf.code_cases l with h | h | h
              · exact absurd h HC.out
              · exact h
              · obtain ⟨j, j1, j2, j3⟩ := (Utf.code_ends HNE.out HC.out).1 h
                have := HM.out j j1 (by omega)
                rw [j3] at this
                cases this
            go_wp2
            go_ret3
            rw [HF.out]
            exact ⟨rfl, hbq⟩
end Go.Proofs.YtjjoedkigjekcaaGreatDoor
namespace Go.Proofs.YtjjoedkigjekcaaGreatDoor
open Go.RowKit

/-- what the reference's Decode leaves -/
def AnsR (w : World) (x : List Int × Nat × Nat) (e : Ending) (w' : World) : Prop :=
  Below w.heap.size w w' ∧ ((x.2.2 = 0 ∧ ∃ v, e = .returned (.tuple #[v, .int .i64 0, .int .i64 0]) ∧ w'.ownsRow w.heap.size 21 1 v x.1.length (x.1.map (Value.int .i32))) ∨
    (x.2.2 ≠ 0 ∧ e = .returned (.tuple #[.slice none 0 0, .int .i64 x.2.1, .int .i64 x.2.2])))

set_option maxHeartbeats 1000000 in
theorem refDecode_any (s : ByteArray) (w : World) (hs : s.size ≤ 4000) :
    Calls Tryz.prog 81 #[.string s] w (AnsR w (Utf.dec s.data.toList 0)) := by
  obtain ⟨i0, hi, hz0, hz1, hz2⟩ := info_parts Tryz.infoRune
  have hsl : s.data.toList.length = s.size := rfl
  have HSL := Hid.mk' hsl
  clear hsl
  go_enter Tryz.func81, Tryz.ntmps81
  go_wp2
  go_loopw [5, 6] (fun v i wr => ∃ (k : Nat) (rs : List Int), k ≤ s.size ∧ i = .int .i64 k ∧ wr.ownsRow w.heap.size 21 1 v rs.length (rs.map (Value.int .i32)) ∧ Below w.heap.size w wr ∧ rs.length ≤ k ∧ Hid (Utf.dec s.data.toList 0 = Utf.glue rs (Utf.dec (s.data.toList.drop k) k))) (fun _ i _ => s.size - (intOf i).toNat)
  case atStart => exact ⟨0, [], Nat.zero_le _, rfl, World.ownsRow_nil _ _ _ _, Below.refl _ _, Nat.le_refl _, Utf.glue_start _⟩
  case round =>
    obtain ⟨k, rs, hk, rfl, hown, hbel, hle, HD⟩ := hrel
    by_cases hlt : k < s.size
    · have HN0 := refNext_any s k wr hs hlt
      by_cases hx : (Utf.first (s.data.toList.drop k)).2.2 = 0
      · obtain ⟨r, n, hf⟩ : ∃ r n, Utf.first (s.data.toList.drop k) = (r, n, 0) := ⟨_, _, Prod.ext rfl (Prod.ext rfl hx)⟩
        have hwid := Utf.first_width hf
        rw [List.length_drop, HSL.out] at hwid
        obtain ⟨n1, n4, nl, -, -⟩ := hwid
        rw [hf] at HN0
        have HN := Hid.mk' HN0
        have HF := Hid.mk' hf
        clear hf hx HN0
        go_wp2_with (first | (go_at_call 102; refine HN.out.mono ?_; rintro e w1 ⟨rfl, hb1⟩; have hown1 := owns_below hown hb1; have hs1 := hb1.size; have hs0 := hbel.size) | (at_builtin; refine wpList_append_own _ rfl _ _ 119 rfl w.heap.size 21 i0 (.int .i32 0) 1 4 Tryz.underlying119 hi hz0 hz1 hz2 rfl (by decide) _ _ _ rfl (hown1.alloc _) ⟨w1.heap.size, 0, none⟩ 1 1 [.int .i32 r] rfl rfl (cell_one_new _ _ _) (by intro u hu; simp at hu; subst hu; rfl) (by unfold maxLen; omega) (by omega) (by simp; omega) ?_; intro v' w2 hown' hgrow _))
        have R1 := ((hbel.trans (hb1.mono hs0)).alloc (by omega) _).grown hgrow (by simp; omega) (fun j hj => (hown1.lt j hj).1)
        have R2 : w2.ownsRow w.heap.size 21 1 v' (rs ++ [r]).length ((rs ++ [r]).map (Value.int .i32)) := by simpa using hown'
        have R3 : Hid (Utf.dec s.data.toList 0 = Utf.glue (rs ++ [r]) (Utf.dec (s.data.toList.drop (k + n.toNat)) (k + n.toNat))) := by
          show _ = _
          rw [HD.out, Utf.dec_step k HF.out, Utf.glue_glue, List.drop_drop]
        clear hown' hgrow hown1 hown
        go_roundw
        case rel => exact ⟨k + n.toNat, rs ++ [r], by omega, congrArg (Value.int .i64) (by omega), R2, R1, by simp; omega, R3⟩
        case measure => simp [intOf]; omega
      · obtain ⟨c, hc, hf⟩ : ∃ c, c ≠ 0 ∧ Utf.first (s.data.toList.drop k) = (0, 0, c) := by
          rcases Utf.code_cases (s.data.toList.drop k) with h | h | h
          · exact absurd h hx
          · exact ⟨1, by decide, h⟩
          · exact ⟨2, by decide, h⟩
        have HE : Hid (Utf.dec s.data.toList 0 = ([], k, c)) := by
          show _ = _
          rw [HD.out, Utf.dec_bad k (by intro e; have := congrArg List.length e; rw [List.length_drop, HSL.out] at this; simp at this; omega) hx, Utf.glue_bad _ _ _ hx, hf]
        rw [hf] at HN0
        have HN := Hid.mk' HN0
        have HCC := Hid.mk' hc
        have hcn : ((c : Int) != 0) = true := by rw [bne_iff_ne]; omega
        clear hx hf HN0 hc
        go_wp2_with (go_at_call 102; refine HN.out.mono ?_; rintro e w1 ⟨rfl, hb1⟩)
        go_ret3
        rw [HE.out]
        exact ⟨hbel.trans (hb1.mono hbel.size), .inr ⟨HCC.out, rfl⟩⟩
    · have HE : Hid (Utf.dec s.data.toList 0 = (rs, 0, 0)) := by
        show _ = _
        rw [HD.out, List.drop_of_length_le (by rw [HSL.out]; omega), Utf.dec_nil, Utf.glue_nil]
      go_wp2
      go_ret3
      rw [HE.out]
      exact ⟨hbel, .inl ⟨rfl, _, rfl, hown⟩⟩

theorem refDecode_ok (s : ByteArray) (w : World) (hs : s.size ≤ 4000) (rs : List Int) (h : Utf.dec s.data.toList 0 = (rs, 0, 0)) :
    Calls Tryz.prog 81 #[.string s] w fun e w' => ∃ v, e = .returned (.tuple #[v, .int .i64 0, .int .i64 0]) ∧ w'.ownsRow w.heap.size 21 1 v rs.length (rs.map (Value.int .i32)) ∧ Below w.heap.size w w' := by
  refine (refDecode_any s w hs).mono ?_
  rw [h]
  rintro e w' ⟨hb, h1 | h1⟩
  · obtain ⟨_, v, rfl, ho⟩ := h1
    exact ⟨v, rfl, ho, hb⟩
  · exact absurd rfl h1.1
theorem refDecode_err (s : ByteArray) (w : World) (hs : s.size ≤ 4000) (k c : Nat) (h : Utf.dec s.data.toList 0 = ([], k, c)) (hc : c ≠ 0) :
    Calls Tryz.prog 81 #[.string s] w fun e w' => e = .returned (.tuple #[.slice none 0 0, .int .i64 k, .int .i64 c]) ∧ Below w.heap.size w w' := by
  refine (refDecode_any s w hs).mono ?_
  rw [h]
  rintro e w' ⟨hb, h1 | h1⟩
  · exact absurd h1.1 hc
  · exact ⟨h1.2, hb⟩

theorem Utf.dec_codes : ∀ (m : Nat) (l : List UInt8) (a : Nat), l.length ≤ m → (Utf.dec l a).2.2 = 0 ∨ (Utf.dec l a).2.2 = 1 ∨ (Utf.dec l a).2.2 = 2 := by
  intro m
  induction m with
  | zero =>
    intro l a hl
    have : l = [] := List.eq_nil_of_length_eq_zero (by omega)
    subst this
    exact .inl (by rw [Utf.dec_nil])
  | succ m ih =>
    intro l a hl
    by_cases hn : l = []
    · subst hn
      exact .inl (by rw [Utf.dec_nil])
    · by_cases hc : (Utf.first l).2.2 = 0
      · obtain ⟨r, n, hf⟩ : ∃ r n, Utf.first l = (r, n, 0) := ⟨_, _, Prod.ext rfl (Prod.ext rfl hc)⟩
        have hw := Utf.first_width hf
        rw [Utf.dec_step a hf]
        have := ih (l.drop n.toNat) (a + n.toNat) (by rw [List.length_drop]; omega)
        unfold Utf.glue
        split
        · exact .inl rfl
        · exact this
      · rw [Utf.dec_bad a hn hc]
        rcases Utf.code_cases l with h | h | h
        · exact absurd h hc
        · rw [h]; exact .inr (.inl rfl)
        · rw [h]; exact .inr (.inr rfl)
end Go.Proofs.YtjjoedkigjekcaaGreatDoor

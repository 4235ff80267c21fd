/-
  What is proved here: what utf.moved, utf.Next answer.
-/
import Derived.Test.YteflghhpdikidaaDoorFirst
namespace Go.Proofs.YteflghhpdikidaaDoor
open Go.RowKit

set_option maxHeartbeats 400000 in
theorem moved_nil (n : Int) (w : World) :
    Calls Tryd.prog 58 #[.nilIface, .int .i64 n] w fun e w' => e = .returned .nilIface ∧ Below w.heap.size w w' := by
  go_enter Tryd.func58, Tryd.ntmps58
  go_wp2_with (go_at_call 29; refine (as_nil _ _).mono ?_; rintro e w' ⟨rfl, rfl⟩)
  go_ret
  exact ⟨rfl, (Below.refl _ _).alloc (Nat.le_refl _) _⟩



set_option maxHeartbeats 1000000 in
theorem moved_fault (b : Nat) (at_ n : Int) (p : Addr) (w : World) (ha0 : 0 ≤ at_) (hn0 : 0 ≤ n) (ha1 : at_ ≤ 4611686018427387904) (hn1 : n < 4611686018427387904)
    (hg : w.cell? ⟨1, 0, none⟩ = some (.iface 96 (.agg #[.pointer (some ⟨22, 24, none⟩)])))
    (h0 : w.cell? ⟨b, 0, none⟩ = some (.int .i64 at_)) (h1 : w.cell? ⟨b, 1, none⟩ = some (.iface 133 (.pointer (some p)))) :
    Calls Tryd.prog 58 #[.iface 57 (.pointer (some ⟨b, 0, none⟩)), .int .i64 n] w fun e w' => ∃ v, e = .returned v ∧ Flt w' v w.heap.size (at_ + n) p ∧ Below w.heap.size w w' := by
  have hb := lt_of_cell h0
  have hge := lt_of_cell hg
  have hgA : (w.alloc (.cells #[.pointer none] 57)).cell? ⟨1, 0, none⟩ = some (.iface 96 (.agg #[.pointer (some ⟨22, 24, none⟩)])) := by
    rw [World.cell?_alloc_lt _ _ ⟨1, 0, none⟩ hge]; exact hg
  have htA : (w.alloc (.cells #[.pointer none] 57)).cell? ⟨w.heap.size, 0, none⟩ = some (.pointer none) := by simp
  have hfA : (w.alloc (.cells #[.pointer none] 57)).frozen? ⟨w.heap.size, 0, none⟩ = false := by simp
  have HA := Hid.mk' (as_hit2 ⟨b, 0, none⟩ _ _ _ hgA htA hfA)
  have HB : Hid (∀ w', Below w.heap.size (w.alloc (.cells #[.pointer none] 57)) w' → Below w.heap.size w w') := fun w' h => ((Below.refl _ _).alloc (Nat.le_refl _) _).trans h
  clear hgA htA hfA
  go_enter Tryd.func58, Tryd.ntmps58
  go_wp2_with (go_at_call 29; refine HA.out.mono ?_; rintro e w1 ⟨rfl, hc, hbel⟩; have HW := HB.out _ hbel; have k0 := (HW.cell (p := ⟨b, 0, none⟩) hb).trans h0; have k1 := (HW.cell (p := ⟨b, 1, none⟩) hb).trans h1; clear h0 h1 hg)
  go_region
  go_wp2
  go_ret
  exact ⟨_, rfl, ⟨w1.heap.size, HW.size, rfl, by simp, by simp⟩, (HW.alloc HW.size _).drew⟩


theorem first_all (s : ByteArray) (w : World) (p : Nat → Addr) (hs : s.size ≤ maxLen) (hne : 0 < s.size) (hg : Gl p w) :
    Calls Tryd.prog 57 #[.string s] w (Ans w (Utf.first s.data.toList) 0 p) := by
  by_cases h : Utf.formWidth s[0].toNat = 0
  · exact first_zero s w p hs hne h hg.g1
  · exact first_any s w p hs hne h hg.g1 hg.g2
theorem first_ok (s : ByteArray) (w : World) (p : Nat → Addr) (hs : s.size ≤ maxLen) (hne : 0 < s.size) (hg : Gl p w) (x : Int × Int × Nat) (hx : Utf.first s.data.toList = x) (h : x.2.2 = 0) :
    Calls Tryd.prog 57 #[.string s] w fun e w' => e = .returned (.tuple #[.int .i32 x.1, .int .i64 x.2.1, .nilIface]) ∧ Below w.heap.size w w' := by
  refine (first_all s w p hs hne hg).mono ?_
  rintro e w' ⟨hb, h1 | h1⟩
  · exact ⟨by rw [← hx]; exact h1.2, hb⟩
  · exact absurd (by rw [hx]; exact h) h1.1
theorem first_err (s : ByteArray) (w : World) (p : Nat → Addr) (hs : s.size ≤ maxLen) (hne : 0 < s.size) (hg : Gl p w) (x : Int × Int × Nat) (hx : Utf.first s.data.toList = x) (h : x.2.2 ≠ 0) :
    Calls Tryd.prog 57 #[.string s] w fun e w' => ∃ b, e = .returned (.tuple #[.int .i32 0, .int .i64 0, .iface 57 (.pointer (some ⟨b, 0, none⟩))]) ∧ w'.cell? ⟨b, 0, none⟩ = some (.int .i64 0) ∧ w'.cell? ⟨b, 1, none⟩ = some (.iface 133 (.pointer (some (p x.2.2)))) ∧ Below w.heap.size w w' := by
  refine (first_all s w p hs hne hg).mono ?_
  rintro e w' ⟨hb, h1 | h1⟩
  · exact absurd (by rw [← hx]; exact h1.1) h
  · obtain ⟨_, v, rfl, b, _, rfl, c0, c1⟩ := h1
    exact ⟨b, rfl, c0, by rw [← hx]; exact c1, hb⟩

set_option maxHeartbeats 400000 in
theorem next_range (s : ByteArray) (at_ : Int) (w : World) (p : Nat → Addr) (_hs : s.size ≤ maxLen) (hg : Gl p w) (h : at_ < 0 ∨ (s.size : Int) ≤ at_) :
    Calls Tryd.prog 49 #[.string s, .int .i64 at_] w (Ans w (0, 0, 4) at_ p) := by
  unfold maxLen at _hs
  have g4 := hg.g4
  clear hg
  by_cases h0 : at_ < 0
  all_goals
    go_enter Tryd.func49, Tryd.ntmps49
    go_wp2
    go_region
    go_wp2
    go_ret3
    exact ans_new 4 (by decide) rfl


set_option maxHeartbeats 1000000 in
theorem next_in (s : ByteArray) (k : Nat) (w : World) (p : Nat → Addr) (hs : s.size ≤ 2147483648) (hg : Gl p w) (hk : k < s.size) :
    Calls Tryd.prog 49 #[.string s, .int .i64 k] w (Ans w (Utf.first (s.data.toList.drop k)) k p) := by
  have hcs := cut_size s k
  have hne : 0 < (s.extract k s.size).size := by omega
  have hm : (s.extract k s.size).size ≤ maxLen := by unfold maxLen; omega
  generalize hx : Utf.first (s.data.toList.drop k) = x
  by_cases h : x.2.2 = 0
  · have HF := Hid.mk' (fun w hg => first_ok (s.extract k s.size) w p hm hne hg x (by rw [cut_toList, hx]) h)
    clear hcs hne hm hx
    go_enter Tryd.func49, Tryd.ntmps49
    go_wp2_with (first | (go_at_call 57; refine (HF.out _ hg).mono ?_; rintro e w1 ⟨rfl, hb1⟩) | (go_at_call 58; refine (moved_nil _ _).mono ?_; rintro e w2 ⟨rfl, hb2⟩))
    go_ret3
    exact ⟨hb1.trans (hb2.mono hb1.size), .inl ⟨h, rfl⟩⟩
  · have HF := Hid.mk' (fun w hg => first_err (s.extract k s.size) w p hm hne hg x (by rw [cut_toList, hx]) h)
    clear hcs hne hm hx
    go_enter Tryd.func49, Tryd.ntmps49
    go_wp2_with (first | (go_at_call 57; refine (HF.out _ hg).mono ?_; rintro e w1 ⟨b, rfl, c0, c1, hb1⟩) | (go_at_call 58; refine (moved_fault b 0 (k : Int) (p x.2.2) w1 (by omega) (by omega) (by omega) (by omega) (hg.below hb1).et c0 c1).mono ?_; rintro e w2 ⟨v, rfl, hv, hb2⟩))
    go_ret3
    exact ⟨hb1.trans (hb2.mono hb1.size), .inr ⟨h, v, rfl, hv.weaken hb1.size (by omega)⟩⟩
end Go.Proofs.YteflghhpdikidaaDoor

/-
  What is proved here: what the small functions of the laws of layer 1 (Is, Named, Same, awake) and utf.Valid answer.
-/
import Derived.Test.YtbpjenckkllbaaaDoorEncode
namespace Go.Proofs.YtbpjenckkllbaaaDoor
open Go.RowKit

set_option maxHeartbeats 400000 in
theorem named_any (c : Nat) (w : World) (p : Nat → Addr) (hg : Gl p w) (hc : c = 1 ∨ c = 2 ∨ c = 4) :
    Calls Tryd.prog 25 #[.int .i64 c] w fun e w' => e = .returned (.iface 93 (.pointer (some (p c)))) ∧ w = w' := by
  obtain ⟨-, g1, g2, g4⟩ := hg
  rcases hc with rfl | rfl | rfl
  all_goals
    go_enter Tryd.func25, Tryd.ntmps25
    go_wp2
    go_ret
    exact ⟨rfl, rfl⟩

set_option maxHeartbeats 400000 in
theorem lawIs_none (at_ : Int) (w : World) :
    Calls Tryd.prog 12 #[.nilIface, .int .i64 at_, .int .i64 0] w fun e w' => e = .returned (.bool true) ∧ w = w' := by
  go_enter Tryd.func12, Tryd.ntmps12
  go_wp2
  go_ret
  exact ⟨rfl, rfl⟩

set_option maxHeartbeats 1000000 in
theorem lawIs_fault (v : Value) (B : Nat) (at_ : Int) (c : Nat) (w : World) (p : Nat → Addr) (hg : Gl p w) (hc : c = 1 ∨ c = 2 ∨ c = 4) (hf : Flt w v B at_ (p c)) :
    Calls Tryd.prog 12 #[v, .int .i64 at_, .int .i64 c] w fun e w' => e = .returned (.bool true) ∧ Below w.heap.size w w' := by
  obtain ⟨b, -, rfl, h0, h1⟩ := hf
  have hcz : ((c : Int) == 0) = false := by rcases hc with rfl | rfl | rfl <;> rfl
  have hb := lt_of_cell h0
  have hgA : (w.alloc (.cells #[.pointer none] 45)).cell? ⟨1, 0, none⟩ = some (.iface 78 (.agg #[.pointer (some ⟨19, 25, none⟩)])) := by
    rw [World.cell?_alloc_lt _ _ ⟨1, 0, none⟩ (lt_of_cell hg.et)]; exact hg.et
  have htA : (w.alloc (.cells #[.pointer none] 45)).cell? ⟨w.heap.size, 0, none⟩ = some (.pointer none) := by simp
  have hfA : (w.alloc (.cells #[.pointer none] 45)).frozen? ⟨w.heap.size, 0, none⟩ = false := by simp
  have HA := Hid.mk' (as_hit2 ⟨b, 0, none⟩ _ _ _ hgA htA hfA)
  have HB : Hid (∀ w', Below w.heap.size (w.alloc (.cells #[.pointer none] 45)) w' → Below w.heap.size w w') := fun w' h => ((Below.refl _ _).alloc (Nat.le_refl _) _).trans h
  have HC := Hid.mk' hc
  have HG := Hid.mk' hg
  clear hgA htA hfA hc hg
  go_enter Tryd.func12, Tryd.ntmps12
  go_wp2_with (first | (go_at_call 23; refine HA.out.mono ?_; rintro e w1 ⟨rfl, hc, hbel⟩; have HW := HB.out _ hbel; have k0 := (HW.cell (p := ⟨b, 0, none⟩) hb).trans h0; have k1 := (HW.cell (p := ⟨b, 1, none⟩) hb).trans h1; clear h0 h1) | (go_at_call 25; refine (named_any c w1 p (HG.out.below HW) HC.out).mono ?_; rintro e w2 ⟨rfl, rfl⟩) | (go_at_call 24; refine (is_fault b 0 (p c) w1 k1).mono ?_; rintro e w2 ⟨rfl, rfl⟩))
  go_ret
  exact ⟨rfl, HW⟩

theorem decode_ok (s : ByteArray) (w : World) (p : Nat → Addr) (hs : s.size ≤ 2147483648) (hg : Gl p w) (rs : List Int) (h : Utf.dec s.data.toList 0 = (rs, 0, 0)) :
    Calls Tryd.prog 10 #[.string s] w fun e w' => ∃ v, e = .returned (.tuple #[v, .nilIface]) ∧ w'.ownsRow w.heap.size 21 1 v rs.length (rs.map (Value.int .i32)) ∧ Below w.heap.size w w' := by
  refine (decode_any s w p hs hg).mono ?_
  rw [h]
  rintro e w' ⟨hb, h1 | h1⟩
  · obtain ⟨_, v, rfl, ho⟩ := h1
    exact ⟨v, rfl, ho, hb⟩
  · exact absurd rfl h1.1
theorem decode_err (s : ByteArray) (w : World) (p : Nat → Addr) (hs : s.size ≤ 2147483648) (hg : Gl p w) (k c : Nat) (h : Utf.dec s.data.toList 0 = ([], k, c)) (hc : c ≠ 0) :
    Calls Tryd.prog 10 #[.string s] w fun e w' => ∃ b, e = .returned (.tuple #[.slice none 0 0, .iface 45 (.pointer (some ⟨b, 0, none⟩))]) ∧ Flt w' (.iface 45 (.pointer (some ⟨b, 0, none⟩))) w.heap.size k (p c) ∧ Below w.heap.size w w' := by
  refine (decode_any s w p hs hg).mono ?_
  rw [h]
  rintro e w' ⟨hb, h1 | h1⟩
  · exact absurd h1.1 hc
  · obtain ⟨_, v, rfl, hf⟩ := h1
    obtain ⟨b, h1, rfl, h3⟩ := hf
    exact ⟨b, rfl, ⟨b, h1, rfl, h3⟩, hb⟩

set_option maxHeartbeats 400000 in
theorem valid_any (s : ByteArray) (w : World) (p : Nat → Addr) (hs : s.size ≤ 2147483648) (hg : Gl p w) :
    Calls Tryd.prog 14 #[.string s] w fun e w' => e = .returned (.bool ((Utf.dec s.data.toList 0).2.2 == 0)) ∧ Below w.heap.size w w' := by
  generalize hx : Utf.dec s.data.toList 0 = x
  have hxc := @Utf.dec_code s.data.toList 0
  rw [hx] at hxc
  by_cases h : x.2.2 = 0
  · have h1 : x.2.1 = 0 := by rw [← hx] at h ⊢; exact Utf.dec_zero _ h
    have HN := Hid.mk' (decode_ok s w p hs hg x.1 (by rw [hx]; exact Prod.ext rfl (Prod.ext h1 h)))
    have HB : Hid ((x.2.2 == 0) = true) := beq_iff_eq.2 h
    clear hxc h h1 hx hg
    go_enter Tryd.func14, Tryd.ntmps14
    go_wp2_with (go_at_call 10; refine HN.out.mono ?_; rintro e w1 ⟨v, rfl, ho, hb⟩)
    go_ret
    rw [HB.out]
    exact ⟨rfl, hb⟩
  · have HN := Hid.mk' (decode_err s w p hs hg x.2.1 x.2.2 (by rw [hx]; exact Prod.ext (hxc h) rfl) h)
    have HB : Hid ((x.2.2 == 0) = false) := beq_eq_false_iff_ne.2 h
    clear hxc h hx hg
    go_enter Tryd.func14, Tryd.ntmps14
    go_wp2_with (go_at_call 10; refine HN.out.mono ?_; rintro e w1 ⟨b, rfl, ho, hb⟩)
    go_ret
    rw [HB.out]
    exact ⟨rfl, hb⟩
end Go.Proofs.YtbpjenckkllbaaaDoor

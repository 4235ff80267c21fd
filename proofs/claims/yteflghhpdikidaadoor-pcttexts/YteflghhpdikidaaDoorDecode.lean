/-
  What is proved here: what utf.Decode and utf.Valid answer at every text of at most 2^31 bytes.
-/
import Derived.Test.YteflghhpdikidaaDoorNext
import Derived.Test.YteflghhpdikidaaDoorDec
import Derived.OwnWalk
namespace Go.Proofs.YteflghhpdikidaaDoor
open Go.RowKit


theorem next_ok (s : ByteArray) (k : Nat) (w : World) (p : Nat → Addr) (hs : s.size ≤ 2147483648) (hg : Gl p w) (hk : k < s.size) (r n : Int) (h : Utf.first (s.data.toList.drop k) = (r, n, 0)) :
    Calls Tryd.prog 49 #[.string s, .int .i64 k] w fun e w' => e = .returned (.tuple #[.int .i32 r, .int .i64 n, .nilIface]) ∧ Below w.heap.size w w' := by
  refine (next_in s k w p hs hg hk).mono ?_
  rw [h]
  rintro e w' ⟨hb, h1 | h1⟩
  · exact ⟨h1.2, hb⟩
  · exact absurd rfl h1.1
theorem next_err (s : ByteArray) (k : Nat) (w : World) (p : Nat → Addr) (hs : s.size ≤ 2147483648) (hg : Gl p w) (hk : k < s.size) (h : (Utf.first (s.data.toList.drop k)).2.2 ≠ 0) :
    Calls Tryd.prog 49 #[.string s, .int .i64 k] w fun e w' => ∃ b, e = .returned (.tuple #[.int .i32 0, .int .i64 0, .iface 57 (.pointer (some ⟨b, 0, none⟩))]) ∧ Flt w' (.iface 57 (.pointer (some ⟨b, 0, none⟩))) w.heap.size k (p (Utf.first (s.data.toList.drop k)).2.2) ∧ Below w.heap.size w w' := by
  refine (next_in s k w p hs hg hk).mono ?_
  rintro e w' ⟨hb, h1 | h1⟩
  · exact absurd h1.1 h
  · obtain ⟨_, v, rfl, hf⟩ := h1
    obtain ⟨b, h1, rfl, h3⟩ := hf
    exact ⟨b, rfl, ⟨b, h1, rfl, h3⟩, hb⟩

/-- what a call that answers runes and an error leaves -/
def AnsL (w : World) (x : List Int × Nat × Nat) (p : Nat → Addr) (e : Ending) (w' : World) : Prop :=
  Below w.heap.size w w' ∧ ((x.2.2 = 0 ∧ ∃ v, e = .returned (.tuple #[v, .nilIface]) ∧ w'.ownsRow w.heap.size 21 1 v x.1.length (x.1.map (Value.int .i32))) ∨
    (x.2.2 ≠ 0 ∧ ∃ v, e = .returned (.tuple #[.slice none 0 0, v]) ∧ Flt w' v w.heap.size x.2.1 (p x.2.2)))

set_option maxHeartbeats 1000000 in
theorem decode_any (s : ByteArray) (w : World) (p : Nat → Addr) (hs : s.size ≤ 2147483648) (hg : Gl p w) :
    Calls Tryd.prog 38 #[.string s] w (AnsL w (Utf.dec s.data.toList 0) p) := by
  obtain ⟨i0, hi, hz0, hz1, hz2⟩ := info_parts Tryd.infoRune
  have hsl : s.data.toList.length = s.size := rfl
  have HSL := Hid.mk' hsl
  clear hsl
  go_enter Tryd.func38, Tryd.ntmps38
  go_wp2
  go_loopw [4, 5] (fun v i wr => ∃ (k : Nat) (rs : List Int), k ≤ s.size ∧ i = .int .i64 k ∧ wr.ownsRow w.heap.size 21 1 v rs.length (rs.map (Value.int .i32)) ∧ Below w.heap.size w wr ∧ rs.length ≤ k ∧ Hid (Utf.dec s.data.toList 0 = Utf.glue rs (Utf.dec (s.data.toList.drop k) k))) (fun _ i _ => s.size - (intOf i).toNat)
  case atStart => exact ⟨0, [], Nat.zero_le _, rfl, World.ownsRow_nil _ _ _ _, Below.refl _ _, Nat.le_refl _, Utf.glue_start _⟩
  case round =>
    obtain ⟨k, rs, hk, rfl, hown, hbel, hle, HD⟩ := hrel
    by_cases hlt : k < s.size
    · by_cases hx : (Utf.first (s.data.toList.drop k)).2.2 = 0
      · obtain ⟨r, n, hf⟩ : ∃ r n, Utf.first (s.data.toList.drop k) = (r, n, 0) := ⟨_, _, Prod.ext rfl (Prod.ext rfl hx)⟩
        have hwid := Utf.first_width hf
        rw [List.length_drop, HSL.out] at hwid
        obtain ⟨n1, n4, nl, -, -⟩ := hwid
        have HN := Hid.mk' (next_ok s k wr p hs (hg.below hbel) hlt r n hf)
        have HF := Hid.mk' hf
        clear hf hx
        go_wp2_with (first | (go_at_call 49; refine HN.out.mono ?_; rintro e w1 ⟨rfl, hb1⟩; have hown1 := owns_below hown hb1; have hs1 := hb1.size; have hs0 := hbel.size) | (at_builtin; refine wpList_append_own _ rfl _ _ 45 rfl w.heap.size 21 i0 (.int .i32 0) 1 4 Tryd.underlying45 hi hz0 hz1 hz2 rfl (by decide) _ _ _ rfl (hown1.alloc _) ⟨w1.heap.size, 0, none⟩ 1 1 [.int .i32 r] rfl rfl (cell_one_new _ _ _) (by intro u hu; simp at hu; subst hu; rfl) (by unfold maxLen; omega) (by omega) (by simp; omega) ?_; intro v' w2 hown' hgrow _))
        have R1 := ((hbel.trans (hb1.mono hs0)).alloc (by omega) _).grown hgrow (by simp; omega) (fun j hj => (hown1.lt j hj).1)
        have R2 : w2.ownsRow w.heap.size 21 1 v' (rs ++ [r]).length ((rs ++ [r]).map (Value.int .i32)) := by simpa using hown'
        have R3 : Hid (Utf.dec s.data.toList 0 = Utf.glue (rs ++ [r]) (Utf.dec (s.data.toList.drop (k + n.toNat)) (k + n.toNat))) := by
          show _ = _
          rw [HD.out, Utf.dec_step k HF.out, Utf.glue_glue, List.drop_drop]
        clear hown' hgrow hown1 hown
        go_roundw
        case rel => exact ⟨k + n.toNat, rs ++ [r], by omega, congrArg (Value.int .i64) (by omega), R2, R1, by simp; omega, R3⟩
        case measure => simp [intOf]; omega
      · have HN := Hid.mk' (next_err s k wr p hs (hg.below hbel) hlt hx)
        have HE : Hid (Utf.dec s.data.toList 0 = ([], k, (Utf.first (s.data.toList.drop k)).2.2)) := by
          show _ = _
          rw [HD.out, Utf.dec_bad k (by intro e; have := congrArg List.length e; rw [List.length_drop, HSL.out] at this; simp at this; omega) hx, Utf.glue_bad _ _ _ hx]
        have HX := Hid.mk' hx
        clear hx
        go_wp2_with (go_at_call 49; refine HN.out.mono ?_; rintro e w1 ⟨b, rfl, hf, hb1⟩)
        go_ret2
        rw [HE.out]
        exact ⟨hbel.trans (hb1.mono hbel.size), .inr ⟨HX.out, _, rfl, hf.weaken hbel.size rfl⟩⟩
    · have HE : Hid (Utf.dec s.data.toList 0 = (rs, 0, 0)) := by
        show _ = _
        rw [HD.out, List.drop_of_length_le (by rw [HSL.out]; omega), Utf.dec_nil, Utf.glue_nil]
      go_wp2
      go_ret2
      rw [HE.out]
      exact ⟨hbel, .inl ⟨rfl, _, rfl, hown⟩⟩

theorem decode_ok (s : ByteArray) (w : World) (p : Nat → Addr) (hs : s.size ≤ 2147483648) (hg : Gl p w) (rs : List Int) (h : Utf.dec s.data.toList 0 = (rs, 0, 0)) :
    Calls Tryd.prog 38 #[.string s] w fun e w' => ∃ v, e = .returned (.tuple #[v, .nilIface]) ∧ w'.ownsRow w.heap.size 21 1 v rs.length (rs.map (Value.int .i32)) ∧ Below w.heap.size w w' := by
  refine (decode_any s w p hs hg).mono ?_
  rw [h]
  rintro e w' ⟨hb, h1 | h1⟩
  · obtain ⟨_, v, rfl, ho⟩ := h1
    exact ⟨v, rfl, ho, hb⟩
  · exact absurd rfl h1.1
theorem decode_err (s : ByteArray) (w : World) (p : Nat → Addr) (hs : s.size ≤ 2147483648) (hg : Gl p w) (k c : Nat) (h : Utf.dec s.data.toList 0 = ([], k, c)) (hc : c ≠ 0) :
    Calls Tryd.prog 38 #[.string s] w fun e w' => ∃ b, e = .returned (.tuple #[.slice none 0 0, .iface 57 (.pointer (some ⟨b, 0, none⟩))]) ∧ Flt w' (.iface 57 (.pointer (some ⟨b, 0, none⟩))) w.heap.size k (p c) ∧ Below w.heap.size w w' := by
  refine (decode_any s w p hs hg).mono ?_
  rw [h]
  rintro e w' ⟨hb, h1 | h1⟩
  · exact absurd h1.1 hc
  · obtain ⟨_, v, rfl, hf⟩ := h1
    obtain ⟨b, h1, rfl, h3⟩ := hf
    exact ⟨b, rfl, ⟨b, h1, rfl, h3⟩, hb⟩
end Go.Proofs.YteflghhpdikidaaDoor

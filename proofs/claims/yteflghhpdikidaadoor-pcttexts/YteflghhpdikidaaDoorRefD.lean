/-
  What is proved here: what the reference's Decode (layer 1) answers at every text of at most 60 bytes.
-/
import Derived.Test.YteflghhpdikidaaDoorRef3
import Derived.Test.YteflghhpdikidaaDoorDecode
namespace Go.Proofs.YteflghhpdikidaaDoor
open Go.RowKit

/-- what the reference's Decode leaves -/
def AnsR (w : World) (x : List Int × Nat × Nat) (e : Ending) (w' : World) : Prop :=
  Below w.heap.size w w' ∧ ((x.2.2 = 0 ∧ ∃ v, e = .returned (.tuple #[v, .int .i64 0, .int .i64 0]) ∧ w'.ownsRow w.heap.size 21 1 v x.1.length (x.1.map (Value.int .i32))) ∨
    (x.2.2 ≠ 0 ∧ e = .returned (.tuple #[.slice none 0 0, .int .i64 x.2.1, .int .i64 x.2.2])))

set_option maxHeartbeats 1000000 in
theorem refDecode_any (s : ByteArray) (w : World) (hs : s.size ≤ 60) :
    Calls Tryd.prog 40 #[.string s] w (AnsR w (Utf.dec s.data.toList 0)) := by
  obtain ⟨i0, hi, hz0, hz1, hz2⟩ := info_parts Tryd.infoRune
  have hsl : s.data.toList.length = s.size := rfl
  have HSL := Hid.mk' hsl
  clear hsl
  go_enter Tryd.func40, Tryd.ntmps40
  go_wp2
  go_loopw [5, 6] (fun v i wr => ∃ (k : Nat) (rs : List Int), k ≤ s.size ∧ i = .int .i64 k ∧ wr.ownsRow w.heap.size 21 1 v rs.length (rs.map (Value.int .i32)) ∧ Below w.heap.size w wr ∧ rs.length ≤ k ∧ Hid (Utf.dec s.data.toList 0 = Utf.glue rs (Utf.dec (s.data.toList.drop k) k))) (fun _ i _ => s.size - (intOf i).toNat)
  case atStart => exact ⟨0, [], Nat.zero_le _, rfl, World.ownsRow_nil _ _ _ _, Below.refl _ _, Nat.le_refl _, Utf.glue_start _⟩
  case round =>
    obtain ⟨k, rs, hk, rfl, hown, hbel, hle, HD⟩ := hrel
    by_cases hlt : k < s.size
    · have HN0 := refNext_any s k wr hs hlt
      by_cases hx : (Utf.first (s.data.toList.drop k)).2.2 = 0
      · obtain ⟨r, n, hf⟩ : ∃ r n, Utf.first (s.data.toList.drop k) = (r, n, 0) := ⟨_, _, Prod.ext rfl (Prod.ext rfl hx)⟩
        have hwid := Utf.first_width hf
        rw [List.length_drop, HSL.out] at hwid
        obtain ⟨n1, n4, nl, -, -⟩ := hwid
        rw [hf] at HN0
        have HN := Hid.mk' HN0
        have HF := Hid.mk' hf
        clear hf hx HN0
        go_wp2_with (first | (go_at_call 50; refine HN.out.mono ?_; rintro e w1 ⟨rfl, hb1⟩; have hown1 := owns_below hown hb1; have hs1 := hb1.size; have hs0 := hbel.size) | (at_builtin; refine wpList_append_own _ rfl _ _ 45 rfl w.heap.size 21 i0 (.int .i32 0) 1 4 Tryd.underlying45 hi hz0 hz1 hz2 rfl (by decide) _ _ _ rfl (hown1.alloc _) ⟨w1.heap.size, 0, none⟩ 1 1 [.int .i32 r] rfl rfl (cell_one_new _ _ _) (by intro u hu; simp at hu; subst hu; rfl) (by unfold maxLen; omega) (by omega) (by simp; omega) ?_; intro v' w2 hown' hgrow _))
        have R1 := ((hbel.trans (hb1.mono hs0)).alloc (by omega) _).grown hgrow (by simp; omega) (fun j hj => (hown1.lt j hj).1)
        have R2 : w2.ownsRow w.heap.size 21 1 v' (rs ++ [r]).length ((rs ++ [r]).map (Value.int .i32)) := by simpa using hown'
        have R3 : Hid (Utf.dec s.data.toList 0 = Utf.glue (rs ++ [r]) (Utf.dec (s.data.toList.drop (k + n.toNat)) (k + n.toNat))) := by
          show _ = _
          rw [HD.out, Utf.dec_step k HF.out, Utf.glue_glue, List.drop_drop]
        clear hown' hgrow hown1 hown
        go_roundw
        case rel => exact ⟨k + n.toNat, rs ++ [r], by omega, congrArg (Value.int .i64) (by omega), R2, R1, by simp; omega, R3⟩
        case measure => simp [intOf]; omega
      · obtain ⟨c, hc, hf⟩ : ∃ c, c ≠ 0 ∧ Utf.first (s.data.toList.drop k) = (0, 0, c) := by
          rcases Utf.code_cases (s.data.toList.drop k) with h | h | h
          · exact absurd h hx
          · exact ⟨1, by decide, h⟩
          · exact ⟨2, by decide, h⟩
        have HE : Hid (Utf.dec s.data.toList 0 = ([], k, c)) := by
          show _ = _
          rw [HD.out, Utf.dec_bad k (by intro e; have := congrArg List.length e; rw [List.length_drop, HSL.out] at this; simp at this; omega) hx, Utf.glue_bad _ _ _ hx, hf]
        rw [hf] at HN0
        have HN := Hid.mk' HN0
        have HCC := Hid.mk' hc
        have hcn : ((c : Int) != 0) = true := by rw [bne_iff_ne]; omega
        clear hx hf HN0 hc
        go_wp2_with (go_at_call 50; refine HN.out.mono ?_; rintro e w1 ⟨rfl, hb1⟩)
        go_ret3
        rw [HE.out]
        exact ⟨hbel.trans (hb1.mono hbel.size), .inr ⟨HCC.out, rfl⟩⟩
    · have HE : Hid (Utf.dec s.data.toList 0 = (rs, 0, 0)) := by
        show _ = _
        rw [HD.out, List.drop_of_length_le (by rw [HSL.out]; omega), Utf.dec_nil, Utf.glue_nil]
      go_wp2
      go_ret3
      rw [HE.out]
      exact ⟨hbel, .inl ⟨rfl, _, rfl, hown⟩⟩

theorem refDecode_ok (s : ByteArray) (w : World) (hs : s.size ≤ 60) (rs : List Int) (h : Utf.dec s.data.toList 0 = (rs, 0, 0)) :
    Calls Tryd.prog 40 #[.string s] w fun e w' => ∃ v, e = .returned (.tuple #[v, .int .i64 0, .int .i64 0]) ∧ w'.ownsRow w.heap.size 21 1 v rs.length (rs.map (Value.int .i32)) ∧ Below w.heap.size w w' := by
  refine (refDecode_any s w hs).mono ?_
  rw [h]
  rintro e w' ⟨hb, h1 | h1⟩
  · obtain ⟨_, v, rfl, ho⟩ := h1
    exact ⟨v, rfl, ho, hb⟩
  · exact absurd rfl h1.1
theorem refDecode_err (s : ByteArray) (w : World) (hs : s.size ≤ 60) (k c : Nat) (h : Utf.dec s.data.toList 0 = ([], k, c)) (hc : c ≠ 0) :
    Calls Tryd.prog 40 #[.string s] w fun e w' => e = .returned (.tuple #[.slice none 0 0, .int .i64 k, .int .i64 c]) ∧ Below w.heap.size w w' := by
  refine (refDecode_any s w hs).mono ?_
  rw [h]
  rintro e w' ⟨hb, h1 | h1⟩
  · exact absurd h1.1 hc
  · exact ⟨h1.2, hb⟩

theorem Utf.dec_codes : ∀ (m : Nat) (l : List UInt8) (a : Nat), l.length ≤ m → (Utf.dec l a).2.2 = 0 ∨ (Utf.dec l a).2.2 = 1 ∨ (Utf.dec l a).2.2 = 2 := by
  intro m
  induction m with
  | zero =>
    intro l a hl
    have : l = [] := List.eq_nil_of_length_eq_zero (by omega)
    subst this
    exact .inl (by rw [Utf.dec_nil])
  | succ m ih =>
    intro l a hl
    by_cases hn : l = []
    · subst hn
      exact .inl (by rw [Utf.dec_nil])
    · by_cases hc : (Utf.first l).2.2 = 0
      · obtain ⟨r, n, hf⟩ : ∃ r n, Utf.first l = (r, n, 0) := ⟨_, _, Prod.ext rfl (Prod.ext rfl hc)⟩
        have hw := Utf.first_width hf
        rw [Utf.dec_step a hf]
        have := ih (l.drop n.toNat) (a + n.toNat) (by rw [List.length_drop]; omega)
        unfold Utf.glue
        split
        · exact .inl rfl
        · exact this
      · rw [Utf.dec_bad a hn hc]
        rcases Utf.code_cases l with h | h | h
        · exact absurd h hc
        · rw [h]; exact .inr (.inl rfl)
        · rw [h]; exact .inr (.inr rfl)
end Go.Proofs.YteflghhpdikidaaDoor

/-
  What is proved here: what the reference's Decode (layer 1) answers; the walk of UtfDecodes: it answers true at every text.
-/
import Derived.Test.YtbpjenckkllbaaaDoorNextC
namespace Go.Proofs.YtbpjenckkllbaaaDoor
open Go.RowKit

/-- what the reference's Decode leaves -/
def AnsR (w : World) (x : List Int × Nat × Nat) (e : Ending) (w' : World) : Prop :=
  Below w.heap.size w w' ∧ ((x.2.2 = 0 ∧ ∃ v, e = .returned (.tuple #[v, .int .i64 0, .int .i64 0]) ∧ w'.ownsRow w.heap.size 21 1 v x.1.length (x.1.map (Value.int .i32))) ∨
    (x.2.2 ≠ 0 ∧ e = .returned (.tuple #[.slice none 0 0, .int .i64 x.2.1, .int .i64 x.2.2])))

set_option maxHeartbeats 1000000 in
theorem refDecode_any (s : ByteArray) (w : World) (hs : s.size ≤ 60) :
    Calls Tryd.prog 11 #[.string s] w (AnsR w (Utf.dec s.data.toList 0)) := by
  obtain ⟨i0, hi, hz0, hz1, hz2⟩ := info_parts Tryd.infoRune
  have hsl : s.data.toList.length = s.size := rfl
  have HSL := Hid.mk' hsl
  clear hsl
  go_enter Tryd.func11, Tryd.ntmps11
  go_wp2
  go_loopw [5, 6] (fun v i wr => ∃ (k : Nat) (rs : List Int), k ≤ s.size ∧ i = .int .i64 k ∧ wr.ownsRow w.heap.size 21 1 v rs.length (rs.map (Value.int .i32)) ∧ Below w.heap.size w wr ∧ rs.length ≤ k ∧ Hid (Utf.dec s.data.toList 0 = Utf.glue rs (Utf.dec (s.data.toList.drop k) k))) (fun _ i _ => s.size - (intOf i).toNat)
  case atStart => exact ⟨0, [], Nat.zero_le _, rfl, World.ownsRow_nil _ _ _ _, Below.refl _ _, Nat.le_refl _, Utf.glue_start _⟩
  case round =>
    obtain ⟨k, rs, hk, rfl, hown, hbel, hle, HD⟩ := hrel
    by_cases hlt : k < s.size
    · have HN0 := refNext_any s k wr hs hlt
      by_cases hx : (Utf.first (s.data.toList.drop k)).2.2 = 0
      · obtain ⟨r, n, hf⟩ : ∃ r n, Utf.first (s.data.toList.drop k) = (r, n, 0) := ⟨_, _, Prod.ext rfl (Prod.ext rfl hx)⟩
        have hwid := Utf.first_width hf
        rw [List.length_drop, HSL.out] at hwid
        obtain ⟨n1, n4, nl, -, -⟩ := hwid
        rw [hf] at HN0
        have HN := Hid.mk' HN0
        have HF := Hid.mk' hf
        clear hf hx HN0
        go_wp2_with (first | (go_at_call 16; refine HN.out.mono ?_; rintro e w1 ⟨rfl, hb1⟩; have hown1 := owns_below hown hb1; have hs1 := hb1.size; have hs0 := hbel.size) | (at_builtin; refine wpList_append_own _ rfl _ _ 23 rfl w.heap.size 21 i0 (.int .i32 0) 1 4 Tryd.underlying23 hi hz0 hz1 hz2 rfl (by decide) _ _ _ rfl (hown1.alloc _) ⟨w1.heap.size, 0, none⟩ 1 1 [.int .i32 r] rfl rfl (cell_one_new _ _ _) (by intro u hu; simp at hu; subst hu; rfl) (by unfold maxLen; omega) (by omega) (by simp; omega) ?_; intro v' w2 hown' hgrow _))
        have R1 := ((hbel.trans (hb1.mono hs0)).alloc (by omega) _).grown hgrow (by simp; omega) (fun j hj => (hown1.lt j hj).1)
        have R2 : w2.ownsRow w.heap.size 21 1 v' (rs ++ [r]).length ((rs ++ [r]).map (Value.int .i32)) := by simpa using hown'
        have R3 : Hid (Utf.dec s.data.toList 0 = Utf.glue (rs ++ [r]) (Utf.dec (s.data.toList.drop (k + n.toNat)) (k + n.toNat))) := by
          show _ = _
          rw [HD.out, Utf.dec_step k HF.out, Utf.glue_glue, List.drop_drop]
        clear hown' hgrow hown1 hown
        go_roundw
        case rel => exact ⟨k + n.toNat, rs ++ [r], by omega, congrArg (Value.int .i64) (by omega), R2, R1, by simp; omega, R3⟩
        case measure => simp [intOf]; omega
      · obtain ⟨c, hc, hf⟩ : ∃ c, c ≠ 0 ∧ Utf.first (s.data.toList.drop k) = (0, 0, c) := by
          rcases Utf.code_cases (s.data.toList.drop k) with h | h | h
          · exact absurd h hx
          · exact ⟨1, by decide, h⟩
          · exact ⟨2, by decide, h⟩
        have HE : Hid (Utf.dec s.data.toList 0 = ([], k, c)) := by
          show _ = _
          rw [HD.out, Utf.dec_bad k (by intro e; have := congrArg List.length e; rw [List.length_drop, HSL.out] at this; simp at this; omega) hx, Utf.glue_bad _ _ _ hx, hf]
        rw [hf] at HN0
        have HN := Hid.mk' HN0
        have HCC := Hid.mk' hc
        have hcn : ((c : Int) != 0) = true := by rw [bne_iff_ne]; omega
        clear hx hf HN0 hc
        go_wp2_with (go_at_call 16; refine HN.out.mono ?_; rintro e w1 ⟨rfl, hb1⟩)
        go_ret3
        rw [HE.out]
        exact ⟨hbel.trans (hb1.mono hbel.size), .inr ⟨HCC.out, rfl⟩⟩
    · have HE : Hid (Utf.dec s.data.toList 0 = (rs, 0, 0)) := by
        show _ = _
        rw [HD.out, List.drop_of_length_le (by rw [HSL.out]; omega), Utf.dec_nil, Utf.glue_nil]
      go_wp2
      go_ret3
      rw [HE.out]
      exact ⟨hbel, .inl ⟨rfl, _, rfl, hown⟩⟩

theorem refDecode_ok (s : ByteArray) (w : World) (hs : s.size ≤ 60) (rs : List Int) (h : Utf.dec s.data.toList 0 = (rs, 0, 0)) :
    Calls Tryd.prog 11 #[.string s] w fun e w' => ∃ v, e = .returned (.tuple #[v, .int .i64 0, .int .i64 0]) ∧ w'.ownsRow w.heap.size 21 1 v rs.length (rs.map (Value.int .i32)) ∧ Below w.heap.size w w' := by
  refine (refDecode_any s w hs).mono ?_
  rw [h]
  rintro e w' ⟨hb, h1 | h1⟩
  · obtain ⟨_, v, rfl, ho⟩ := h1
    exact ⟨v, rfl, ho, hb⟩
  · exact absurd rfl h1.1
theorem refDecode_err (s : ByteArray) (w : World) (hs : s.size ≤ 60) (k c : Nat) (h : Utf.dec s.data.toList 0 = ([], k, c)) (hc : c ≠ 0) :
    Calls Tryd.prog 11 #[.string s] w fun e w' => e = .returned (.tuple #[.slice none 0 0, .int .i64 k, .int .i64 c]) ∧ Below w.heap.size w w' := by
  refine (refDecode_any s w hs).mono ?_
  rw [h]
  rintro e w' ⟨hb, h1 | h1⟩
  · exact absurd h1.1 hc
  · exact ⟨h1.2, hb⟩

theorem Utf.dec_codes : ∀ (m : Nat) (l : List UInt8) (a : Nat), l.length ≤ m → (Utf.dec l a).2.2 = 0 ∨ (Utf.dec l a).2.2 = 1 ∨ (Utf.dec l a).2.2 = 2 := by
  intro m
  induction m with
  | zero =>
    intro l a hl
    have : l = [] := List.eq_nil_of_length_eq_zero (by omega)
    subst this
    exact .inl (by rw [Utf.dec_nil])
  | succ m ih =>
    intro l a hl
    by_cases hn : l = []
    · subst hn
      exact .inl (by rw [Utf.dec_nil])
    · by_cases hc : (Utf.first l).2.2 = 0
      · obtain ⟨r, n, hf⟩ : ∃ r n, Utf.first l = (r, n, 0) := ⟨_, _, Prod.ext rfl (Prod.ext rfl hc)⟩
        have hw := Utf.first_width hf
        rw [Utf.dec_step a hf]
        have := ih (l.drop n.toNat) (a + n.toNat) (by rw [List.length_drop]; omega)
        unfold Utf.glue
        split
        · exact .inl rfl
        · exact this
      · rw [Utf.dec_bad a hn hc]
        rcases Utf.code_cases l with h | h | h
        · exact absurd h hc
        · rw [h]; exact .inr (.inl rfl)
        · rw [h]; exact .inr (.inr rfl)

set_option maxHeartbeats 2000000 in
theorem decodes_any (w : World) (p : Nat → Addr) (hg : Gl p w) (s : ByteArray) (hs : s.size ≤ maxLen) :
    Calls Tryd.prog 3 #[.string s] w fun e w' => e = .returned (.bool true) ∧ Below w.heap.size w w' := by
  have HW := Hid.mk' (awake_any w p hg)
  unfold maxLen at hs
  by_cases hl : 60 < s.size
  · clear hg
    go_enter Tryd.func3, Tryd.ntmps3
    go_wp2_with (go_at_call 9; refine HW.out.mono ?_; rintro e w1 ⟨rfl, hb1⟩)
    go_ret
    exact ⟨rfl, hb1⟩
  have hs60 : s.size ≤ 60 := by omega
  have hs2 : s.size ≤ 2147483648 := by omega
  have HV : Hid (∀ w5, Below w.heap.size w w5 → _) := fun w5 hb => valid_any s w5 p hs2 (hg.below hb)
  by_cases hc : (Utf.dec s.data.toList 0).2.2 = 0
  · obtain ⟨rs, hd⟩ : ∃ rs, Utf.dec s.data.toList 0 = (rs, 0, 0) := ⟨_, Prod.ext rfl (Prod.ext (Utf.dec_zero 0 hc) hc)⟩
    have hlen := dec_length hd
    have hsl : s.data.toList.length = s.size := rfl
    have HD : Hid (∀ w1, Below w.heap.size w w1 → _) := fun w1 hb => decode_ok s w1 p hs2 (hg.below hb) rs hd
    have HR : Hid (∀ w2, _) := fun w2 => refDecode_ok s w2 hs60 rs hd
    have HS : Hid (∀ va vb w4, Runes w4 va rs → Runes w4 vb rs → _) := fun va vb w4 h1 h2 => same_any va vb rs w4 (by omega) h1 h2
    rw [hd] at HV
    clear hg hd hc hlen hsl
    go_enter Tryd.func3, Tryd.ntmps3
    go_wp2_with fail
    refine HW.out.mono ?_
    rintro e w1 ⟨rfl, hb1⟩
    go_wp2_with fail
    refine (HD.out w1 hb1).mono ?_
    rintro e w2 ⟨va, rfl, hoa, hb2⟩
    have hb3 := hb1.trans (hb2.mono hb1.size)
    go_wp2_with fail
    refine (HR.out w2).mono ?_
    rintro e w3 ⟨vb, rfl, hob, hb4⟩
    have hb5 := hb3.trans (hb4.mono hb3.size)
    have HS2 := Hid.mk' (HS.out va vb w3 ((Runes.own hoa).below hb4) (Runes.own hob))
    clear hoa hob
    go_wp2_with (first | (go_at_call 12; refine (lawIs_none _ _).mono ?_; rintro e w4 ⟨rfl, rfl⟩) | (go_at_call 13; refine HS2.out.mono ?_; rintro e w6 ⟨rfl, hb6⟩; have hb7 := hb5.trans (hb6.mono hb5.size)) | (go_at_call 14; refine (HV.out w6 hb7).mono ?_; rintro e w8 ⟨rfl, hb8⟩))
    go_ret
    exact ⟨rfl, hb7.trans (hb8.mono hb7.size)⟩
  · obtain ⟨k, c, hcc, hd⟩ : ∃ k c, (c = 1 ∨ c = 2 ∨ c = 4) ∧ Utf.dec s.data.toList 0 = ([], k, c) := by
      refine ⟨(Utf.dec s.data.toList 0).2.1, (Utf.dec s.data.toList 0).2.2, ?_, Prod.ext (Utf.dec_code 0 hc) rfl⟩
      rcases Utf.dec_codes _ s.data.toList 0 (Nat.le_refl _) with h | h | h
      · exact absurd h hc
      · exact .inl h
      · exact .inr (.inl h)
    have hc0 : c ≠ 0 := by omega
    have HD : Hid (∀ w1, Below w.heap.size w w1 → _) := fun w1 hb => decode_err s w1 p hs2 (hg.below hb) k c hd hc0
    have HR : Hid (∀ w2, _) := fun w2 => refDecode_err s w2 hs60 k c hd hc0
    have HS : Hid (∀ w4, _) := fun w4 => same_any (.slice none 0 0) (.slice none 0 0) [] w4 (by decide) ⟨none, 0, rfl, fun j hj => by simp at hj⟩ ⟨none, 0, rfl, fun j hj => by simp at hj⟩
    have HI : Hid (∀ w4 v B, Below w.heap.size w w4 → Flt w4 v B k (p c) → _) := fun w4 v B hb hf => lawIs_fault v B k c w4 p (hg.below hb) hcc hf
    rw [hd] at HV
    have hcz : (c == 0) = false := by simpa using hc0
    have hcz2 : ((c : Int) == 0) = false := beq_eq_false_iff_ne.2 (by omega)
    clear hg hd hc hc0 hcc
    go_enter Tryd.func3, Tryd.ntmps3
    go_wp2_with fail
    refine HW.out.mono ?_
    rintro e w1 ⟨rfl, hb1⟩
    go_wp2_with fail
    refine (HD.out w1 hb1).mono ?_
    rintro e w2 ⟨b, rfl, hf, hb2⟩
    have hb3 := hb1.trans (hb2.mono hb1.size)
    go_wp2_with fail
    refine (HR.out w2).mono ?_
    rintro e w3 ⟨rfl, hb4⟩
    have hb5 := hb3.trans (hb4.mono hb3.size)
    have HI2 := Hid.mk' (HI.out w3 _ _ hb5 (hf.below hb4))
    have HFL := Hid.mk' hf
    clear hf
    go_wp2_with (first | (go_at_call 12; refine HI2.out.mono ?_; rintro e w4 ⟨rfl, hb9⟩; have hb10 := hb5.trans (hb9.mono hb5.size)) | (go_at_call 13; refine (HS.out w4).mono ?_; rintro e w6 ⟨rfl, hb6⟩; have hb7 := hb10.trans (hb6.mono hb10.size)) | (go_at_call 14; refine (HV.out w6 hb7).mono ?_; rintro e w8 ⟨rfl, hb8⟩))
    go_ret
    exact ⟨rfl, hb7.trans (hb8.mono hb7.size)⟩
end Go.Proofs.YtbpjenckkllbaaaDoor

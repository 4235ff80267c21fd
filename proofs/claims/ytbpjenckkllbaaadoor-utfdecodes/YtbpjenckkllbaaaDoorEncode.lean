/-
  What is proved here: what utf.Encode answers at every list of at most 2^28 runes.
-/
import Derived.Test.YtbpjenckkllbaaaDoorEnc
import Derived.Laws.BytesArg
namespace Go.Proofs.YtbpjenckkllbaaaDoor
open Go.RowKit

/-- a slice value that holds runes -/
def Runes (w : World) (v : Value) (rs : List Int) : Prop :=
  ∃ a cap, v = .slice a rs.length cap ∧ ∀ j, j < rs.length → ∃ b off, a = some ⟨b, off, none⟩ ∧ w.cell? ⟨b, off + j, none⟩ = some (.int .i32 (rs.getD j 0))
theorem Runes.below {w w' : World} {v : Value} {rs : List Int} (h : Runes w v rs) (hb : Below w.heap.size w w') : Runes w' v rs := by
  obtain ⟨a, cap, rfl, h⟩ := h
  refine ⟨a, cap, rfl, fun j hj => ?_⟩
  obtain ⟨b, off, rfl, hc⟩ := h j hj
  exact ⟨b, off, rfl, (hb.cell (p := ⟨b, off + j, none⟩) (lt_of_cell hc)).trans hc⟩
theorem Runes.below' {w w' : World} {v : Value} {rs : List Int} (h : Runes w v rs) {B : Nat} (hb : Below B w w') (hB : ∀ b, v.ownBlock = some b → b < B) : Runes w' v rs := by
  obtain ⟨a, cap, rfl, h⟩ := h
  refine ⟨a, cap, rfl, fun j hj => ?_⟩
  obtain ⟨b, off, rfl, hc⟩ := h j hj
  exact ⟨b, off, rfl, (hb.cell (p := ⟨b, off + j, none⟩) (hB b rfl)).trans hc⟩
theorem Runes.own {w : World} {B : Nat} {v : Value} {rs : List Int} (h : w.ownsRow B 21 1 v rs.length (rs.map (Value.int .i32))) : Runes w v rs := by
  rcases h.2 with ⟨rfl, h0⟩ | ⟨g, cap, cur, rfl, _, _⟩
  · exact ⟨none, 0, by rw [h0], fun j hj => by omega⟩
  · refine ⟨some ⟨g, 0, none⟩, cap, rfl, fun j hj => ⟨g, 0, rfl, ?_⟩⟩
    rw [Nat.zero_add, h.cellAt j (by omega)]
    simp [List.getElem?_eq_getElem hj]

theorem conv_own {w : World} {B : Nat} {v : Value} {bs : List Int} {n : Nat} (hn : bs.length = n) (h : w.ownsRow B 5 1 v n (bs.map (Value.int .u8))) :
    (convert 56 9 v).run Tryd.prog w = .ok (.string (strOfNums bs)) w := by
  subst hn
  rcases h.2 with ⟨rfl, h0⟩ | ⟨g, cap, cur, rfl, _, _⟩
  · rw [List.eq_nil_of_length_eq_zero h0]
    exact run_convert_bytes_nil w 56 5 Tryd.underlying56 Tryd.underlying5 0 0 _ Tryd.underlying9
  · refine run_convert_bytes_arg w 56 5 Tryd.underlying56 Tryd.underlying5 g 0 _ cap bs rfl (fun j hj => ?_) _ Tryd.underlying9
    rw [Nat.zero_add, h.cellAt j (by omega)]
    simp [List.getElem?_eq_getElem hj]

/-- what utf.Encode leaves: the forms; or the place of the first rune that isn't right -/
def AnsE (w : World) (rs : List Int) (p : Nat → Addr) (e : Ending) (w' : World) : Prop :=
  Below w.heap.size w w' ∧ (((∀ r ∈ rs, 0 < Utf.width r) ∧ e = .returned (.tuple #[.string (strOfNums (rs.flatMap Utf.form)), .nilIface])) ∨
    (∃ k, k < rs.length ∧ (∀ r ∈ rs.take k, 0 < Utf.width r) ∧ ¬ 0 < Utf.width (rs.getD k 0) ∧ ∃ v, e = .returned (.tuple #[.string ⟨#[]⟩, v]) ∧ Flt w' v w.heap.size k (p 4)))

theorem anse_bad {w wr : World} {rs : List Int} {p : Nat → Addr} {k : Nat} (hbel : Below w.heap.size w wr) (hlt : k < rs.length) (ha : ∀ r ∈ rs.take k, 0 < Utf.width r) (hb : ¬ 0 < Utf.width (rs.getD k 0)) :
    AnsE w rs p (.returned (.tuple #[.string ⟨#[]⟩, .iface 45 (.pointer (some ⟨wr.heap.size, 0, none⟩))])) ((wr.alloc (.cells #[.int .i64 k, .iface 93 (.pointer (some (p 4)))] 49)).drew) :=
  ⟨(hbel.alloc hbel.size _).drew, .inr ⟨k, hlt, ha, hb, _, rfl, wr.heap.size, hbel.size, rfl, by simp, by simp⟩⟩

theorem take_snoc {rs : List Int} {k : Nat} (h : k < rs.length) : rs.take (k + 1) = rs.take k ++ [rs.getD k 0] := by
  rw [List.take_succ_eq_append_getElem h]; simp [List.getD, h]
theorem form_length (r : Int) : (Utf.form r).length ≤ 4 := by unfold Utf.form; (repeat' split) <;> simp
theorem forms_length (rs : List Int) : (rs.flatMap Utf.form).length ≤ 4 * rs.length := by
  induction rs with
  | nil => simp
  | cons r rs ih => have := form_length r; simp only [List.flatMap_cons, List.length_append, List.length_cons]; omega

set_option maxHeartbeats 1000000 in
theorem encode_any (v : Value) (rs : List Int) (w : World) (p : Nat → Addr) (hl : rs.length ≤ 268435456) (hg : Gl p w) (hv : Runes w v rs) :
    Calls Tryd.prog 17 #[v] w (AnsE w rs p) := by
  obtain ⟨a, cap, rfl, hv⟩ := hv
  have HV := Hid.mk' hv
  have HG := Hid.mk' hg
  clear hv hg
  go_enter Tryd.func17, Tryd.ntmps17
  go_wp2
  go_loopw [4, 9] (fun v i wr => ∃ k : Nat, k ≤ rs.length ∧ i = .int .i64 k ∧ wr.ownsRow w.heap.size 5 1 v ((rs.take k).flatMap Utf.form).length (((rs.take k).flatMap Utf.form).map (Value.int .u8)) ∧ Below w.heap.size w wr ∧ Hid (∀ r ∈ rs.take k, 0 < Utf.width r)) (fun _ i _ => rs.length - (intOf i).toNat)
  case atStart => exact ⟨0, Nat.zero_le _, rfl, World.ownsRow_nil _ _ _ _, Below.refl _ _, by intro r hr; simp at hr⟩
  case round =>
    obtain ⟨k, hk, rfl, hown, hbel, HA⟩ := hrel
    by_cases hlt : k < rs.length
    · obtain ⟨b, off, rfl, hc0⟩ := HV.out k hlt
      have hc := (hbel.cell (p := ⟨b, off + k, none⟩) (lt_of_cell hc0)).trans hc0
      clear hc0
      generalize hr : rs.getD k 0 = r at hc
      have HR := Hid.mk' hr
      clear hr
      by_cases hw : 0 < Utf.width r
      · have hfl := forms_length (rs.take k)
        have htl : (rs.take k).length ≤ k := List.length_take_le _ _
        have HP := Hid.mk' (appendForm_any r _ _ _ _ wr hw hown hbel.size (by omega))
        go_wp2_with (first | (go_at_call 18; refine (right_any _ _).mono ?_; rintro e w' ⟨rfl, rfl⟩) | (go_at_call 30; refine HP.out.mono ?_; rintro e w1 ⟨v', rfl, hown', hb1⟩))
        have R1 := hbel.trans hb1
        have R2 : w1.ownsRow w.heap.size 5 1 v' ((rs.take (k + 1)).flatMap Utf.form).length (((rs.take (k + 1)).flatMap Utf.form).map (Value.int .u8)) := by
          rw [take_snoc hlt, HR.out]; simpa using hown'
        have R3 : Hid (∀ r ∈ rs.take (k + 1), 0 < Utf.width r) := by
          intro q hq
          rw [take_snoc hlt, HR.out] at hq
          rcases List.mem_append.1 hq with h | h
          · exact HA.out q h
          · rw [List.mem_singleton.1 h]; exact hw
        clear hown' hown
        go_roundw
        case rel => exact ⟨k + 1, by omega, by go_num, R2, R1, R3⟩
        case measure => simp [intOf]; omega
      · have g4 := (HG.out.below hbel).g4
        have hw' : Utf.width r ≤ 0 := by omega
        have hwb : decide (0 < Utf.width r) = false := by simpa using hw'
        clear hw
        go_wp2_with (go_at_call 18; refine (right_any _ _).mono ?_; rintro e w' ⟨rfl, rfl⟩)
        go_region
        go_wp2
        go_ret2
        exact anse_bad hbel hlt HA.out (by rw [HR.out]; exact Int.not_lt.2 hw')
    · have ht : rs.take k = rs := List.take_of_length_le (by omega)
      rw [ht] at hown HA
      have hconv := conv_own rfl hown
      go_wp2
      go_ret2
      exact ⟨hbel, .inl ⟨HA.out, rfl⟩⟩
end Go.Proofs.YtbpjenckkllbaaaDoor

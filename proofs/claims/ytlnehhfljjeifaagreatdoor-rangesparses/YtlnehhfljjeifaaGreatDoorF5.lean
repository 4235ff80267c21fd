/-
  What is proved here: that RangesTexts answers true at all ranges.
-/
import Derived.Test.YtlnehhfljjeifaaGreatDoorF4
import Derived.Test.YtlnehhfljjeifaaGreatDoorR6
import Derived.Test.YtlnehhfljjeifaaGreatDoorC2
namespace Go.Proofs.YtlnehhfljjeifaaGreatDoor
open Go.RowKit

/-- what the walks of layer 3's texts read of package-level variables -/
structure GlX (p : Nat → Addr) (w : World) : Prop where
  gl : Gl p w
  d64 : w.cell? ⟨26, 15, none⟩ = some (.int .u8 4)
  tab : Lib.TabIs Tryz.prog w "internal/strconv.uint64pow10" .u64 Lib.pow10Tab
theorem GlX.below {p : Nat → Addr} {w w' : World} (h : GlX p w) (hb : Below w.heap.size w w') : GlX p w' :=
  ⟨h.gl.below hb, (hb.cell (p := ⟨26, 15, none⟩) (lt_of_cell h.d64)).trans h.d64, tab_below h.tab hb⟩
/-- the address lies in a block of cells none of which is frozen -/
def Plain (W : World) (a : Addr) : Prop := ∃ cs t, W.heap[a.block]? = some (.cells cs t (0, 0))
theorem Plain.below {w w' : World} {a : Addr} (h : Plain w a) (hb : Below w.heap.size w w') : Plain w' a := by
  obtain ⟨cs, t, h⟩ := h
  refine ⟨cs, t, (hb.block a.block ?_).trans h⟩
  rcases Nat.lt_or_ge a.block w.heap.size with g | g
  · exact g
  · rw [Array.getElem?_eq_none g] at h; cases h
structure GlY (p : Nat → Addr) (w : World) : Prop where
  x : GlX p w
  pl : ∀ c, c = 2 ∨ c = 4 ∨ c = 5 ∨ c = 6 ∨ c = 18 → Plain w (p c)
theorem GlY.below {p : Nat → Addr} {w w' : World} (h : GlY p w) (hb : Below w.heap.size w w') : GlY p w' := ⟨h.x.below hb, fun c hc => (h.pl c hc).below hb⟩
set_option maxHeartbeats 1000000 in
theorem right3_any (v : Value) (l : List Rg) (w : World) (hT : Tab w v l) (hl : l.length ≤ 2147483648) :
    Calls Tryz.prog 7 #[v] w fun e w' => e = .returned (.bool (decide ((chk l).2 = 0))) ∧ Below w.heap.size w w' := by
  have HC := Hid.mk' (refCheck_any v l w hT hl)
  obtain ⟨a, cap, rfl, -⟩ := hT
  generalize (chk l).1 = x at *
  generalize (chk l).2 = y at *
  cases hd : decide (y = 0)
  · have hz : ((y : Int) == 0) = false := by
      have := of_decide_eq_false hd
      simp; omega
    go_enter Tryz.func7, Tryz.ntmps7
    go_wp2_with fail
    refine HC.out.mono ?_
    rintro e w1 ⟨rfl, hb⟩
    go_wp2
    go_ret
    exact ⟨rfl, hb⟩
  · obtain rfl := of_decide_eq_true hd
    go_enter Tryz.func7, Tryz.ntmps7
    go_wp2_with fail
    refine HC.out.mono ?_
    rintro e w1 ⟨rfl, hb⟩
    go_wp2
    go_ret
    exact ⟨rfl, hb⟩
set_option maxHeartbeats 1000000 in
theorem text_bad (v : Value) (l : List Rg) (w : World) (p : Nat → Addr) (hg : Gl p w) (hT : Tab w v l) (hl : l.length ≤ 2147483648) (hc : (chk l).2 ≠ 0) :
    Calls Tryz.prog 8 #[v] w fun e w' => e = .returned (.string ⟨#[]⟩) ∧ Below w.heap.size w w' := by
  have HC := Hid.mk' (check_any v l w p hg hT hl)
  obtain ⟨a, cap, rfl, -⟩ := hT
  clear hg
  go_enter Tryz.func8, Tryz.ntmps8
  go_wp2_with fail
  refine HC.out.mono ?_
  rintro e w1 ⟨fv, rfl, hsay, hb⟩
  obtain ⟨b, -, rfl, -, -⟩ : Flt w1 fv w.heap.size (chk l).1 (p (chk l).2) := by
    rcases hsay with ⟨h1, -⟩ | ⟨-, h2⟩
    · rw [h1] at hc; exact absurd rfl hc
    · exact h2
  clear hsay HC
  go_wp2
  go_ret
  exact ⟨rfl, hb⟩
set_option maxRecDepth 20000 in
set_option maxHeartbeats 8000000 in
theorem texts3_any (w : World) (p : Nat → Addr) (hx : GlX p w) (hm : Ml w) (v : Value) (l : List Rg) (hT : Tab w v l) (_hl : l.length ≤ maxLen) :
    Calls Tryz.prog 3 #[v] w fun e w' => e = .returned (.bool true) ∧ Below w.heap.size w w' := by
  have HA := Hid.mk' (awake3_any w p hx.gl hm)
  obtain ⟨a, cap, rfl, hTj⟩ := id hT
  by_cases hbig : 60 < l.length
  · have hd : decide ((60 : Int) < (l.length : Int)) = true := decide_eq_true (by omega)
    have hd2 : decide (60 < l.length) = true := decide_eq_true hbig
    clear hT hTj hx hm
    go_enter Tryz.func3, Tryz.ntmps3
    go_wp2_with fail
    refine HA.out.mono ?_
    rintro e w1 ⟨rfl, hb⟩
    go_wp2
    go_ret
    exact ⟨rfl, hb⟩
  have hd : decide ((60 : Int) < (l.length : Int)) = false := decide_eq_false (by omega)
  have hd2 : decide (60 < l.length) = false := decide_eq_false hbig
  have HRi : Hid (∀ W, Below w.heap.size w W → _) := fun W hb => right3_any (.slice a l.length cap) l W (hT.below hb) (by omega)
  by_cases hc : (chk l).2 = 0
  rotate_left
  · rw [decide_eq_false hc] at HRi
    have HTX : Hid (∀ W, Below w.heap.size w W → _) := fun W hb => text_bad (.slice a l.length cap) l W p (hx.gl.below hb) (hT.below hb) (by omega) hc
    clear hT hTj hx hm hc
    go_enter Tryz.func3, Tryz.ntmps3
    go_wp2_with fail
    refine HA.out.mono ?_
    rintro e w1 ⟨rfl, hb1⟩
    go_wp2_with fail
    refine (HRi.out w1 hb1).mono ?_
    rintro e w2 ⟨rfl, hb2⟩
    have hb02 := hb1.trans (hb2.mono hb1.size)
    go_wp2_with fail
    refine (HTX.out w2 hb02).mono ?_
    rintro e w3 ⟨rfl, hb3⟩
    go_wp2
    go_ret
    exact ⟨rfl, hb02.trans (hb3.mono hb02.size)⟩
  have hc0 : chk l = (0, 0) := by
    unfold chk at *
    cases hf : faultsM l with
    | nil => rfl
    | cons x s =>
      rw [hf] at hc
      exact absurd hc (faultsM_ne l x (by rw [hf]; simp))
  rw [decide_eq_true hc] at HRi
  have hmy : ∀ r ∈ l, r.may = true := fun r hr => by
    obtain ⟨k, hk, rfl⟩ := List.getElem_of_mem hr
    have := (right_parts (l := l) hc).2.1 k hk
    simpa [List.getD, hk] using this
  have HT : Hid (∀ W, Below w.heap.size w W → ∀ j, j < l.length → ∃ b off, a = some ⟨b, off, none⟩ ∧ W.cell? ⟨b, off + j * 3, none⟩ = some (.int .i32 (l.getD j default).lo) ∧ W.cell? ⟨b, off + j * 3 + 1, none⟩ = some (.int .i32 (l.getD j default).hi) ∧ W.cell? ⟨b, off + j * 3 + 2, none⟩ = some (.int .i64 (l.getD j default).val)) := fun W hb j hj => by
    obtain ⟨b, off, rfl, hc⟩ := hTj j hj
    exact ⟨b, off, rfl, three_of (w := W) (b := b) (o := off + j * 3) (r := l.getD j default) (fun i hi => by rw [← hc i hi]; exact hb.cell (p := ⟨b, off + j * 3 + i, none⟩) (lt_of_cell (hc 0 (by omega))))⟩
  have HMY : Hid (∀ k, k < l.length → (l.getD k default).may = true) := fun k hk => hmy _ (by simp [List.getD, hk])
  have HTL : Hid (∀ k, k ≤ l.length → (textT (l.take k)).length ≤ 28 * k) := fun k hk => by
    have := textT_len (l.take k) (fun r hr => hmy r (List.mem_of_mem_take hr))
    rw [List.length_take] at this
    omega
  have HSN : Hid (∀ k, k < l.length → textT (l.take (k + 1)) = textT (l.take k) ++ (lineT (l.getD k default) ++ [10])) := fun k hk => textT_snoc hk
  have HLN : Hid (∀ (r : Rg) W, r.may = true → _) := fun r W h => refLine_any r W h
  have HPA : Hid (∀ W, Below w.heap.size w W → Calls Tryz.prog 10 #[.string (strL (textT l))] W fun e w' => ∃ v, e = .returned (.tuple #[v, .nilIface]) ∧ Tab w' v l ∧ Below W.heap.size W w') := fun W hb => by
    have hsz : (strL (textT l)).size ≤ 2147483648 := by
      rw [strL_size]
      have := HTL.out l.length (Nat.le_refl _)
      rw [List.take_length] at this
      omega
    refine (parse_any (strL (textT l)) W p (hx.gl.below hb) (hm.below hb) hsz).mono ?_
    rintro e w' ⟨v, fv, rfl, ht, hsay, hb'⟩
    have e1 : (strL (textT l)).data.toList = textT l := by simp [strL]
    rw [e1, parse_text hmy hc] at ht hsay
    rcases hsay with ⟨-, rfl⟩ | ⟨h1, -⟩
    · exact ⟨v, rfl, ht, hb'⟩
    · exact absurd rfl h1
  have HTX : Hid (∀ W, Below w.heap.size w W → _) := fun W hb => text_any (.slice a l.length cap) l W p (hx.gl.below hb) (hT.below hb) hc0 (by omega) (hx.below hb).d64 (hx.below hb).tab
  have HSM : Hid (∀ W u, Below w.heap.size w W → Tab W u l → _) := fun W u hb hu => same_any u (.slice a l.length cap) l W hu (hT.below hb) (by omega)
  have HFU : Hid (textT (l.take l.length) = textT l) := by show _ = _; rw [List.take_length]
  clear hT hTj hx hm hc hmy hc0
  go_enter Tryz.func3, Tryz.ntmps3
  go_wp2_with fail
  refine HA.out.mono ?_
  rintro e w1 ⟨rfl, hb1⟩
  go_wp2_with fail
  refine (HRi.out w1 hb1).mono ?_
  rintro e w2 ⟨rfl, hb2⟩
  have hb02 := hb1.trans (hb2.mono hb1.size)
  clear hb1 hb2
  go_wp2
  go_loopw [3, 4] (fun xs xi wr => ∃ (k : Nat) (s : ByteArray), xs = .string s ∧ xi = .int .i64 k ∧ k ≤ l.length ∧ Hid (s = strL (textT (l.take k))) ∧ s.size ≤ 28 * k ∧ Below w.heap.size w wr) (fun _ xi _ => l.length - (intOf xi).toNat)
  case atStart => exact ⟨0, ⟨#[]⟩, rfl, rfl, Nat.zero_le _, rfl, by decide, hb02⟩
  case round =>
    obtain ⟨k, s, rfl, rfl, hk, hs, hsz, hb⟩ := hrel
    by_cases hlt : k < l.length
    · obtain ⟨b0, off, rfl, d0, d1, d2⟩ := HT.out wr hb k hlt
      have hmay := HMY.out k hlt
      have hL := Hid.mk' (HLN.out (l.getD k default) wr hmay)
      have hS := Hid.mk' (HSN.out k hlt)
      have hlen := lineT_len hmay
      have hlz := strL_size (lineT (l.getD k default))
      generalize l.getD k default = r at *
      have HX : Hid (s ++ (strL (lineT r) ++ ⟨#[10]⟩) = strL (textT (l.take (k + 1)))) := by
        show _ = _
        have q : (⟨#[10]⟩ : ByteArray) = strL [10] := rfl
        rw [hs.out, hS.out, q, strL_append, strL_append]
      have z1 : (⟨#[10]⟩ : ByteArray).size = 1 := rfl
      have hS27 : (strL (lineT r)).size ≤ 27 := by omega
      generalize hLr : strL (lineT r) = S at *
      clear hLr hmay hlen
      obtain ⟨lo, hi, vl⟩ := r
      simp only [] at d0 d1 d2
      have hL2 : Hid (Calls Tryz.prog 9 #[.agg #[.int .i32 lo, .int .i32 hi, .int .i64 vl]] wr fun e w' => e = .returned (.string S) ∧ Below wr.heap.size wr w') := hL.out
      have hklz : (k : Int) < (l.length : Int) := by omega
      clear hL
      go_wp2_with fail
      refine hL2.out.mono ?_
      rintro e w3 ⟨rfl, hb3⟩
      have hbw3 := hb.trans (hb3.mono hb.size)
      have hsz2 : S.size + 1 ≤ 28 := by omega
      have hcat : (s ++ (S ++ ⟨#[10]⟩)).size ≤ 28 * (k + 1) := by simp [ByteArray.size_append]; omega
      clear hL2 d0 d1 d2 hb3
      go_wp2
      go_roundw
      case rel => exact ⟨k + 1, _, rfl, by go_num, by omega, HX, hcat, hbw3⟩
      case measure => simp [intOf]; omega
    · obtain rfl : k = l.length := by omega
      have hs2 := hs.out
      rw [HFU.out] at hs2
      subst hs2
      have HP1 := Hid.mk' (HPA.out wr hb)
      generalize strL (textT l) = S at *
      go_wp2_with fail
      refine HP1.out.mono ?_
      rintro e w3 ⟨u, rfl, hu, hb3⟩
      have hbw3 := hb.trans (hb3.mono hb.size)
      obtain ⟨ua, uc, rfl, -⟩ := id hu
      have HU := Hid.mk' hu
      have HT3 := Hid.mk' (HTX.out w3 hbw3)
      clear hu HP1 hb3
      go_wp2_with fail
      refine HT3.out.mono ?_
      rintro e w4 ⟨rfl, hb4⟩
      have hbw4 := hbw3.trans (hb4.mono hbw3.size)
      have HS4 := Hid.mk' (HSM.out w4 _ hbw4 (HU.out.below hb4))
      clear HT3 HU hb4
      go_wp2_with fail
      refine HS4.out.mono ?_
      rintro e w5 ⟨rfl, hb5⟩
      go_wp2
      go_ret
      exact ⟨ret_bool (by first | rfl | simp), hbw4.trans (hb5.mono hbw4.size)⟩
end Go.Proofs.YtlnehhfljjeifaaGreatDoor

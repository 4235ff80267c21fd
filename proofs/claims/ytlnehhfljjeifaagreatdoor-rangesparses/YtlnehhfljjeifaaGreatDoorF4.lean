/-
  What is proved here: what ranges' Text answers of a table.
-/
import Derived.Test.YtlnehhfljjeifaaGreatDoorF3
import Derived.Test.YtlnehhfljjeifaaGreatDoorD3
import Derived.Test.YtlnehhfljjeifaaGreatDoorX2
import Derived.Test.YtlnehhfljjeifaaGreatDoorR7
import Derived.Lib.AppendIntMem
namespace Go.Proofs.YtlnehhfljjeifaaGreatDoor
open Go.RowKit

theorem tab_below {w w' : World} {name : String} {k : IntKind} {zs : List Int} (h : Lib.TabIs Tryz.prog w name k zs) (hb : Below w.heap.size w w') : Lib.TabIs Tryz.prog w' name k zs := by
  unfold Lib.TabIs World.var? at *
  cases hg : Tryz.prog.globalNamed name with
  | none => simp [hg] at h
  | some g =>
    simp only [hg, Option.bind_some] at h ⊢
    have hlt : g < w.heap.size := by
      rcases Nat.lt_or_ge g w.heap.size with h' | h'
      · exact h'
      · rw [Array.getElem?_eq_none h'] at h; simp at h
    rw [hb.block g hlt]
    exact h
theorem dig_dec (d : Nat) (h : d < 10) : dig d = UInt8.ofNat (48 + d) := by unfold dig; rw [if_pos h]
theorem dec_digs : ∀ f n, n < 10 ^ f → 0 < f → digs 10 f n = Lib.decDigits n
  | 0, n, _, h => by omega
  | f + 1, n, h, _ => by
    rw [Lib.decDigits]
    unfold digs
    by_cases h10 : n < 10
    · rw [if_pos h10, dif_pos h10, dig_dec n h10]
    · rw [if_neg h10, dif_neg h10, dig_dec _ (Nat.mod_lt _ (by omega))]
      have hf : 0 < f := by
        rcases f with _ | f
        · simp at h; omega
        · omega
      rw [dec_digs f (n / 10) (by rw [Nat.pow_succ] at h; exact Nat.div_lt_of_lt_mul (by rw [Nat.mul_comm]; exact h)) hf]
theorem itoa10_any (n : Nat) (hn : n < 100000000) (w : World) (htab : Lib.TabIs Tryz.prog w "internal/strconv.uint64pow10" .u64 Lib.pow10Tab) :
    Calls Tryz.prog 24 #[.int .i64 n] w fun e w' => e = .returned (.string (strL (decT n))) ∧ Below w.heap.size w w' := by
  refine (Tryz.strconv_Itoa (n : Int) (by omega) (by omega) w htab).mono ?_
  rintro e w' ⟨rfl, k, os, rfl⟩
  refine ⟨?_, Lib.below_grow _ _ (Nat.le_refl _) _ _⟩
  rw [Lib.itoa_nonneg, ← dec_digs 8 n (by omega) (by omega)]
  rfl
/-- the block that holds the range that is written -/
def RB (W : World) (bb rb : Nat) (a b c : Nat) : Prop := W.heap[rb]? = some (.cells #[.int .i32 (a : Int), .int .i32 (b : Int), .int .i64 (c : Int)] 28 (0, 0)) ∧ rb ≠ bb
theorem RB.below {W W' : World} {bb rb a b c : Nat} (h : RB W bb rb a b c) (hb : Below W.heap.size W W') : RB W' bb rb a b c := by
  refine ⟨(hb.block rb ?_).trans h.1, h.2⟩
  rcases Nat.lt_or_ge rb W.heap.size with g | g
  · exact g
  · have := h.1; rw [Array.getElem?_eq_none g] at this; cases this
theorem RB.kept {W W' : World} {bb rb a b c : Nat} (h : RB W bb rb a b c) (hk : Lib.OthersKept 5 (some bb) W W') : RB W' bb rb a b c :=
  ⟨hk rb _ h.1 (fun e => h.2 (Option.some.inj e)) (fun c' fz' e => by injection e with _ e2; exact absurd e2 (by decide)), h.2⟩
theorem RB.cells {W : World} {bb rb a b c : Nat} (h : RB W bb rb a b c) : W.cell? ⟨rb, 0, none⟩ = some (.int .i32 (a : Int)) ∧ W.cell? ⟨rb, 1, none⟩ = some (.int .i32 (b : Int)) ∧ W.cell? ⟨rb, 2, none⟩ = some (.int .i64 (c : Int)) := by
  have := h.1
  refine ⟨?_, ?_, ?_⟩ <;> simp [World.cell?, this]
theorem textT_snoc {l : List Rg} {k : Nat} (h : k < l.length) : textT (l.take (k + 1)) = textT (l.take k) ++ (lineT (l.getD k default) ++ [10]) := by
  unfold textT
  rw [List.take_succ_eq_append_getElem h, List.flatMap_append]
  simp [List.getD, h]
theorem lineT_len {r : Rg} (h : r.may = true) : (lineT r).length ≤ 27 := by
  obtain ⟨h1, h2, h3, h4, h5⟩ := r.may_iff.1 h
  have hA := hexT_len8 r.lo.toNat (by omega)
  have hB := hexT_len8 r.hi.toNat (by omega)
  have hC := digs_len8 10 r.val.toNat (by omega) (by omega)
  unfold lineT decT
  split <;> simp <;> omega
theorem textT_len : ∀ (l : List Rg), (∀ r ∈ l, r.may = true) → (textT l).length ≤ 28 * l.length
  | [], _ => by simp [textT]
  | r :: l, h => by
    have h1 := lineT_len (h r (by simp))
    have h2 := textT_len l (fun x hx => h x (by simp [hx]))
    have e : textT (r :: l) = lineT r ++ [10] ++ textT l := rfl
    rw [e]
    simp
    omega
theorem ret_str {x y : ByteArray} (h : x = y) : Ending.returned (.string x) = .returned (.string y) := by rw [h]
set_option maxRecDepth 20000 in
set_option maxHeartbeats 8000000 in
theorem text_any (v : Value) (l : List Rg) (w : World) (p : Nat → Addr) (hg : Gl p w) (hT : Tab w v l) (hc : chk l = (0, 0)) (hl : l.length ≤ 200) (h64 : w.cell? ⟨26, 15, none⟩ = some (.int .u8 4)) (htab : Lib.TabIs Tryz.prog w "internal/strconv.uint64pow10" .u64 Lib.pow10Tab) :
    Calls Tryz.prog 8 #[v] w fun e w' => e = .returned (.string (strL (textT l))) ∧ Below w.heap.size w w' := by
  have HC := Hid.mk' (check_any v l w p hg hT (by omega))
  have hmy : ∀ r ∈ l, r.may = true := fun r hr => by
    obtain ⟨k, hk, rfl⟩ := List.getElem_of_mem hr
    have := (right_parts (l := l) (by rw [hc])).2.1 k hk
    simpa [List.getD, hk] using this
  obtain ⟨a, cap, rfl, hTj⟩ := hT
  have HT : Hid (∀ W, Below w.heap.size w W → ∀ j, j < l.length → ∃ b off, a = some ⟨b, off, none⟩ ∧ W.cell? ⟨b, off + j * 3, none⟩ = some (.int .i32 (l.getD j default).lo) ∧ W.cell? ⟨b, off + j * 3 + 1, none⟩ = some (.int .i32 (l.getD j default).hi) ∧ W.cell? ⟨b, off + j * 3 + 2, none⟩ = some (.int .i64 (l.getD j default).val)) := fun W hb j hj => by
    obtain ⟨b, off, rfl, hc⟩ := hTj j hj
    exact ⟨b, off, rfl, three_of (w := W) (b := b) (o := off + j * 3) (r := l.getD j default) (fun i hi => by rw [← hc i hi]; exact hb.cell (p := ⟨b, off + j * 3 + i, none⟩) (lt_of_cell (hc 0 (by omega))))⟩
  have HMY : Hid (∀ k, k < l.length → (l.getD k default).may = true) := fun k hk => hmy _ (by simp [List.getD, hk])
  have HTX : Hid (∀ k, k ≤ l.length → (textT (l.take k)).length ≤ 28 * 200) := fun k hk => by
    have := textT_len (l.take k) (fun r hr => hmy r (List.mem_of_mem_take hr))
    rw [List.length_take] at this
    omega
  have HSN : Hid (∀ k, k < l.length → textT (l.take (k + 1)) = textT (l.take k) ++ (lineT (l.getD k default) ++ [10])) := fun k hk => textT_snoc hk
  have HRT : Hid (∀ W n, Below w.heap.size w W → n < 2147483648 → _) := fun W n hb hn => runeText_any n hn W ((hb.cell (p := ⟨26, 15, none⟩) (lt_of_cell h64)).trans h64)
  have HIT : Hid (∀ W n, Below w.heap.size w W → n < 100000000 → _) := fun W n hb hn => itoa10_any n hn W (tab_below htab hb)
  rw [hc] at HC
  have HFULL : Hid (textT (l.take l.length) = textT l) := by show _ = _; rw [List.take_length]
  clear hc hmy hTj hg h64 htab
  go_enter Tryz.func8, Tryz.ntmps8
  go_wp2_with fail
  refine HC.out.mono ?_
  rintro e w1 ⟨fv, rfl, hsay, hb1⟩
  obtain ⟨-, rfl⟩ : (0, 0) = ((0, 0) : Nat × Nat) ∧ fv = .nilIface := by
    rcases hsay with ⟨h1, h2⟩ | ⟨h1, -⟩
    · exact ⟨rfl, h2⟩
    · exact absurd rfl h1
  clear hsay HC
  obtain ⟨W2, hW2⟩ : ∃ W2, w1.alloc (.cells #[.pointer none, .slice none 0 0] 58) = W2 := ⟨_, rfl⟩
  have hbld : Lib.IsBuilderF 58 5 w.heap.size w1.heap.size [] W2 := by rw [← hW2]; exact bld_new w1 w.heap.size hb1.size
  have hb2 : Below w.heap.size w W2 := by rw [← hW2]; exact hb1.alloc hb1.size _
  have hlt2 : w1.heap.size < W2.heap.size := by rw [← hW2, World.size_alloc]; omega
  go_wp2
  go_loopw [11] (fun y wr => ∃ k : Nat, y = .int .i64 k ∧ k ≤ l.length ∧ Hid (Lib.IsBuilderF 58 5 w.heap.size w1.heap.size (Lib.byteCells (textT (l.take k))) wr) ∧ w1.heap.size < wr.heap.size ∧ Below w.heap.size w wr) (fun y _ => l.length - (intOf y).toNat)
  case atStart => exact ⟨0, rfl, Nat.zero_le _, hbld, hlt2, hb2⟩
  case round =>
    obtain ⟨k, rfl, hk, hbd, hwr, hb⟩ := hrel
    by_cases hlt : k < l.length
    · obtain ⟨b0, off, rfl, d0, d1, d2⟩ := HT.out wr hb k hlt
      have hmay := HMY.out k hlt
      have HS := HSN.out k hlt
      have hlen := HTX.out k (by omega)
      rw [Rg.may_iff] at hmay
      obtain ⟨m1, m2, m3, m4, m5⟩ := hmay
      generalize l.getD k default = r at *
      obtain ⟨lo, hi, vl⟩ := r
      simp only [] at m1 m2 m3 m4 m5 d0 d1 d2
      obtain ⟨a, rfl⟩ : ∃ a : Nat, lo = a := ⟨lo.toNat, by omega⟩
      obtain ⟨b, rfl⟩ : ∃ b : Nat, hi = b := ⟨hi.toNat, by omega⟩
      obtain ⟨c, rfl⟩ : ∃ c : Nat, vl = c := ⟨vl.toNat, by omega⟩
      have HL : Hid (lineT ⟨a, b, c⟩ = hexT a ++ (if b = a then [] else [46, 46] ++ hexT b) ++ [32] ++ decT c) := by
        show _ = _
        unfold lineT
        simp only [Int.toNat_natCast]
        by_cases e : b = a
        · subst e; simp
        · rw [if_neg (by omega), if_neg e]
      have HSN2 := Hid.mk' HS
      generalize textT (l.take k) = T at *
      have hAl : (hexT a).length ≤ 8 := hexT_len8 a (by omega)
      have hBl : (hexT b).length ≤ 8 := hexT_len8 b (by omega)
      have hCl : (decT c).length ≤ 8 := digs_len8 10 c (by omega) (by omega)
      have z1 : (⟨#[32]⟩ : ByteArray).size = 1 := rfl
      have z2 : (⟨#[10]⟩ : ByteArray).size = 1 := rfl
      have z3 : (⟨#[46, 46]⟩ : ByteArray).size = 2 := rfl
      have hAs := strL_size (hexT a)
      have hBs := strL_size (hexT b)
      have hCs := strL_size (decT c)
      obtain ⟨WA, hWA⟩ : ∃ WA, wr.alloc (.cells #[.int .i32 (a : Int), .int .i32 (b : Int), .int .i64 (c : Int)] 28) = WA := ⟨_, rfl⟩
      have hbA : Below wr.heap.size wr WA := by rw [← hWA]; exact (Below.refl _ _).alloc (Nat.le_refl _) _
      have hbwA : Below w.heap.size w WA := hb.trans (hbA.mono hb.size)
      have RA : RB WA w1.heap.size wr.heap.size a b c := ⟨by rw [← hWA]; exact Array.getElem?_push_size, by omega⟩
      have BA := isBldF_below hbd.out hbA
      have hszA : w1.heap.size < WA.heap.size := by have := hbA.size; omega
      obtain ⟨r0, r1, r2⟩ := RA.cells
      have H1 := Hid.mk' (HRT.out WA a hbwA (by omega))
      have hklz : (k : Int) < (l.length : Int) := by omega
      clear hbd HS
      have HSx := HSN2
      clear HSN2
      go_wp2_with fail
      refine H1.out.mono ?_
      rintro e w3 ⟨rfl, hb3⟩
      have hbw3 := hbwA.trans (hb3.mono hbwA.size)
      have R3 := RA.below hb3
      have B3 := isBldF_below BA hb3
      have hsz3 : w1.heap.size < w3.heap.size := by have := hb3.size; omega
      have H2 := Hid.mk' (writeString w.heap.size w1.heap.size (Lib.byteCells T) (strL (hexT a)) w3 B3 (by rw [Lib.byteCells_length]; omega) hbw3.size)
      clear r0 r1 r2 RA BA B3 H1
      go_wp2_with fail
      refine H2.out.mono ?_
      rintro e w4 ⟨rfl, B4, hb4, hk4⟩
      have hbw4 := hbw3.trans hb4
      have R4 := R3.kept hk4
      have hsz4 : w1.heap.size < w4.heap.size := B4.lt
      obtain ⟨r0, r1, r2⟩ := R4.cells
      clear H2 R3 hk4 hb4
      have e4 : Lib.byteCells T ++ Lib.strCells (strL (hexT a)) = Lib.byteCells (T ++ hexT a) := by rw [Lib.byteCells_append]; rfl
      rw [e4] at B4
      clear e4
      by_cases hab : b = a
      · have hne : ((b : Int) != (a : Int)) = false := by simp; omega
        have H5 := Hid.mk' (HIT.out w4 c hbw4 (by omega))
        go_wp2_with fail
        refine H5.out.mono ?_
        rintro e w7 ⟨rfl, hb7⟩
        have hbw7 := hbw4.trans (hb7.mono hbw4.size)
        have B7 := isBldF_below (show Lib.IsBuilderF 58 5 w.heap.size w1.heap.size _ w4 from .inr B4) hb7
        have H6 : Hid (∀ s : ByteArray, s.size ≤ 100 → _) := fun s hs => writeString w.heap.size w1.heap.size (Lib.byteCells (T ++ hexT a)) s w7 B7 (by rw [Lib.byteCells_length]; simp; omega) hbw7.size
        clear H5 B4 B7 R4 r0 r1 r2 hb7
        go_wp2_with fail
        refine (H6.out _ (by simp [ByteArray.size_append]; omega)).mono ?_
        rintro e w8 ⟨rfl, B8, hb8, -⟩
        have hsz8 : w1.heap.size < w8.heap.size := B8.lt
        have hbw8 := hbw7.trans hb8
        have B9 : Hid (Lib.IsBuilderF 58 5 w.heap.size w1.heap.size (Lib.byteCells (textT (l.take (k + 1)))) w8) := by
          have e8 : Lib.byteCells (textT (l.take (k + 1))) = Lib.byteCells (T ++ hexT a) ++ Lib.strCells (⟨#[32]⟩ ++ strL (decT c) ++ ⟨#[10]⟩) := by
            rw [HSx.out, HL.out, if_pos hab]
            have e9 : (⟨#[32]⟩ : ByteArray) ++ strL (decT c) ++ ⟨#[10]⟩ = strL ([32] ++ decT c ++ [10]) := by
              have q1 : (⟨#[32]⟩ : ByteArray) = strL [32] := rfl
              have q2 : (⟨#[10]⟩ : ByteArray) = strL [10] := rfl
              rw [q1, q2, strL_append, strL_append]
            rw [e9]
            have e10 : ∀ x : List UInt8, Lib.strCells (strL x) = Lib.byteCells x := fun x => rfl
            rw [e10, ← Lib.byteCells_append]
            simp [List.append_assoc]
          show Lib.IsBuilderF _ _ _ _ _ _
          rw [e8]
          exact .inr B8
        clear B8 H6
        go_wp2
        go_roundw
        case rel => exact ⟨k + 1, by go_num, by omega, B9, hsz8, hbw8⟩
        case measure => simp [intOf]; omega
      · have hne : ((b : Int) != (a : Int)) = true := by simp; omega
        have H5 := Hid.mk' (HRT.out w4 b hbw4 (by omega))
        go_wp2_with fail
        refine H5.out.mono ?_
        rintro e w5 ⟨rfl, hb5⟩
        have hbw5 := hbw4.trans (hb5.mono hbw4.size)
        have R5 := R4.below hb5
        have B5 := isBldF_below (show Lib.IsBuilderF 58 5 w.heap.size w1.heap.size _ w4 from .inr B4) hb5
        have H6 : Hid (∀ s : ByteArray, s.size ≤ 100 → _) := fun s hs => writeString w.heap.size w1.heap.size (Lib.byteCells (T ++ hexT a)) s w5 B5 (by rw [Lib.byteCells_length]; simp; omega) hbw5.size
        clear H5 B4 B5 R4 r0 r1 r2 hb5
        go_wp2_with fail
        refine (H6.out _ (by simp [ByteArray.size_append]; omega)).mono ?_
        rintro e w6 ⟨rfl, B6, hb6, hk6⟩
        have hbw6 := hbw5.trans hb6
        have R6 := R5.kept hk6
        have hsz6 : w1.heap.size < w6.heap.size := B6.lt
        obtain ⟨r0, r1, r2⟩ := R6.cells
        have e6 : Lib.byteCells (T ++ hexT a) ++ Lib.strCells (⟨#[46, 46]⟩ ++ strL (hexT b)) = Lib.byteCells (T ++ hexT a ++ ([46, 46] ++ hexT b)) := by
          have q1 : (⟨#[46, 46]⟩ : ByteArray) = strL [46, 46] := rfl
          rw [q1, strL_append]
          have e10 : ∀ x : List UInt8, Lib.strCells (strL x) = Lib.byteCells x := fun x => rfl
          rw [e10, ← Lib.byteCells_append]
        rw [e6] at B6
        clear e6 H6 R5 hk6 hb6
        have H5 := Hid.mk' (HIT.out w6 c hbw6 (by omega))
        go_wp2_with fail
        refine H5.out.mono ?_
        rintro e w7 ⟨rfl, hb7⟩
        have hbw7 := hbw6.trans (hb7.mono hbw6.size)
        have B7 := isBldF_below (show Lib.IsBuilderF 58 5 w.heap.size w1.heap.size _ w6 from .inr B6) hb7
        have H6 : Hid (∀ s : ByteArray, s.size ≤ 100 → _) := fun s hs => writeString w.heap.size w1.heap.size (Lib.byteCells (T ++ hexT a ++ ([46, 46] ++ hexT b))) s w7 B7 (by rw [Lib.byteCells_length]; simp; omega) hbw7.size
        clear H5 B6 B7 R6 r0 r1 r2 hb7
        go_wp2_with fail
        refine (H6.out _ (by simp [ByteArray.size_append]; omega)).mono ?_
        rintro e w8 ⟨rfl, B8, hb8, -⟩
        have hsz8 : w1.heap.size < w8.heap.size := B8.lt
        have hbw8 := hbw7.trans hb8
        have B9 : Hid (Lib.IsBuilderF 58 5 w.heap.size w1.heap.size (Lib.byteCells (textT (l.take (k + 1)))) w8) := by
          have e8 : Lib.byteCells (textT (l.take (k + 1))) = Lib.byteCells (T ++ hexT a ++ ([46, 46] ++ hexT b)) ++ Lib.strCells (⟨#[32]⟩ ++ strL (decT c) ++ ⟨#[10]⟩) := by
            rw [HSx.out, HL.out, if_neg hab]
            have e9 : (⟨#[32]⟩ : ByteArray) ++ strL (decT c) ++ ⟨#[10]⟩ = strL ([32] ++ decT c ++ [10]) := by
              have q1 : (⟨#[32]⟩ : ByteArray) = strL [32] := rfl
              have q2 : (⟨#[10]⟩ : ByteArray) = strL [10] := rfl
              rw [q1, q2, strL_append, strL_append]
            rw [e9]
            have e10 : ∀ x : List UInt8, Lib.strCells (strL x) = Lib.byteCells x := fun x => rfl
            rw [e10, ← Lib.byteCells_append]
            simp [List.append_assoc]
          show Lib.IsBuilderF _ _ _ _ _ _
          rw [e8]
          exact .inr B8
        clear B8 H6
        go_wp2
        go_roundw
        case rel => exact ⟨k + 1, by go_num, by omega, B9, hsz8, hbw8⟩
        case measure => simp [intOf]; omega
    · obtain rfl : k = l.length := by omega
      have hfin := HFULL.out
      have hbd' := hbd.out
      rw [hfin] at hbd'
      have H9 := Hid.mk' (builderString w.heap.size w1.heap.size (textT l) wr hbd' hb.size)
      clear hbd hbd' hfin
      go_wp2_with fail
      refine H9.out.mono ?_
      rintro e w9 ⟨rfl, -, hb9, -⟩
      go_wp2
      go_ret
      exact ⟨rfl, hb.trans hb9⟩
end Go.Proofs.YtlnehhfljjeifaaGreatDoor

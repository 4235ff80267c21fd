/-
  What is proved here: what the reference's Quote answers at any text.
-/
import Derived.Test.YtjjoedkigjekcaaGreatDoorJ6
import Derived.Test.YtjjoedkigjekcaaGreatDoorJ5
import Derived.Maps.OwnOps
namespace Go.Proofs.YtjjoedkigjekcaaGreatDoor
open Go.RowKit Go.Maps

/-- the short form of a byte, as the map has it -/
def shortZ (b : Int) : Int := if b = 8 then 98 else if b = 9 then 116 else if b = 10 then 110 else if b = 12 then 102 else if b = 13 then 114 else 0
abbrev shortD : DataW Unit := ((((((.map [] : DataW Unit).put (.int .u8 8) (.lit (.int .i64 98))).put (.int .u8 9) (.lit (.int .i64 116))).put (.int .u8 10) (.lit (.int .i64 110))).put (.int .u8 12) (.lit (.int .i64 102))).put (.int .u8 13) (.lit (.int .i64 114)))
theorem short_at (b c : Int) (h : shortD.atKey (.int .u8 b) (.lit (.int .i64 0)) = .lit (.int .i64 c)) : c = shortZ b := by
  have e : shortD = .map [(.int .u8 8, .lit (.int .i64 98)), (.int .u8 9, .lit (.int .i64 116)), (.int .u8 10, .lit (.int .i64 110)), (.int .u8 12, .lit (.int .i64 102)), (.int .u8 13, .lit (.int .i64 114))] := by
    rfl
  rw [e] at h
  unfold DataW.atKey at h
  unfold shortZ
  simp only [List.find?, Lit.sameKey, true_and] at h
  by_cases h8 : b = 8
  · subst h8; simpa using h.symm
  by_cases h9 : b = 9
  · subst h9; simpa using h.symm
  by_cases h10 : b = 10
  · subst h10; simpa using h.symm
  by_cases h12 : b = 12
  · subst h12; simpa using h.symm
  by_cases h13 : b = 13
  · subst h13; simpa using h.symm
  rw [if_neg h8, if_neg h9, if_neg h10, if_neg h12, if_neg h13]
  have g : ∀ z : Int, b ≠ z → decide (z = b) = false := fun z hz => decide_eq_false (fun e => hz e.symm)
  simp only [g _ h8, g _ h9, g _ h10, g _ h12, g _ h13] at h
  simpa using h.symm
theorem quote_at {s : List UInt8} {j : Nat} {b : UInt8} (h : s[j]? = some b) : (s.take (j + 1)).flatMap quoteB = (s.take j).flatMap quoteB ++ quoteB b := by
  rw [List.take_add_one, h]
  simp
theorem quoteB_len (b : UInt8) : (quoteB b).length ≤ 6 := by
  unfold quoteB
  repeat' split
  all_goals simp
theorem quotes_len (s : List UInt8) : (s.flatMap quoteB).length ≤ 6 * s.length := by
  induction s with
  | nil => simp
  | cons b s ih =>
    have := quoteB_len b
    rw [List.flatMap_cons, List.length_append, List.length_cons]; omega
theorem conv_one (w : World) (b : Int) :
    (convert 63 9 (.slice (some ⟨w.heap.size, 0, none⟩) 1 1)).run Tryz.prog (w.alloc (.cells #[.int .u8 b] 5)) = .ok (.string (strOfNums [b])) (w.alloc (.cells #[.int .u8 b] 5)) := by
  refine run_convert_bytes_arg _ 63 5 Tryz.underlying63 Tryz.underlying5 w.heap.size 0 1 1 [b] rfl (fun j hj => ?_) _ Tryz.underlying9
  obtain rfl : j = 0 := by simp at hj; omega
  simp
theorem hex_cuts : ∀ q : Fin 16, ByteArray.extract ⟨#[48, 49, 50, 51, 52, 53, 54, 55, 56, 57, 97, 98, 99, 100, 101, 102]⟩ q.val (q.val + 1) = strL [hexC (UInt8.ofNat q.val)] := by decide +kernel
theorem hex_cut (q : Nat) (hq : q < 16) : ByteArray.extract ⟨#[48, 49, 50, 51, 52, 53, 54, 55, 56, 57, 97, 98, 99, 100, 101, 102]⟩ q (q + 1) = strL [hexC (UInt8.ofNat q)] := hex_cuts ⟨q, hq⟩
theorem hex_parts : ∀ n : Fin 32, UInt8.ofNat n.val / 16 = UInt8.ofNat (n.val / 16) ∧ UInt8.ofNat n.val % 16 = UInt8.ofNat (n.val % 16) := by decide +kernel
theorem law8 : Keyed Tryz.prog 5 := int_keyed Tryz.underlying5
theorem key8 (b : Int) (hb : 0 ≤ b ∧ b < 256) : keyOf Tryz.prog 5 (.int .u8 b) = some (.int .u8 b) := keyOf_int_mk Tryz.underlying5 (by simp [Lit.wf, IntKind.min, IntKind.max, IntKind.signed, IntKind.bits]; omega)
theorem val8 (c : Int) (hc : 0 ≤ c ∧ c < 256) : plainElem (H := Unit) Tryz.prog 3 (.int .i64 c) = some (.lit (.int .i64 c), []) := plainElem_int Tryz.underlying3 (by simp [Lit.wf, IntKind.min, IntKind.max, IntKind.signed, IntKind.bits]; omega)
theorem zero8 (w : World) : (zeroValue 3).run Tryz.prog w = .ok (.int .i64 0) w := by kernel_rfl
/-- the literal's map, so far: block b, n keys, read as D -/
abbrev Lit8 (w : World) (b n : Nat) (D : DataW Unit) : Prop := w.ownsMap Tryz.prog 5 (plainElem (H := Unit) Tryz.prog 3) b n D
/-- one key more: a byte k with the number v -/
theorem insert8 {w : World} {b n : Nat} {D : DataW Unit} (h : Lit8 w b n D) (hn : n < 100) (k v : Int) (hk : 0 ≤ k ∧ k < 256) (hv : 0 ≤ v ∧ v < 256) {ops : Array Oper} {rest : List Oper} {o : Oper} {a : Act} {Q : Exit → Act → World → Prop}
    (x : Operand) (ho : o.guard = none ∧ o.op = Op.insert 66 x (.const (.int .u8 k)) (.const (.int .i64 v)) ∧ a.eval x = .map (some b))
    (next : ∀ w', Lit8 w' b (n + 1) (D.put (.int .u8 k) (.lit (.int .i64 v))) → w.grownBy w' (some b) → wpList Tryz.prog ops Q rest (a.put o.dst undef) w') : wpList Tryz.prog ops Q (o :: rest) a w := by
  obtain ⟨w', run, own, grown⟩ := World.ownsMap.update h law8 Tryz.underlying66 (Nat.lt_of_lt_of_le hn (by unfold maxLen; omega)) (key8 k hk) (val8 v hv)
  refine wpList_plain ho.1 fun K' hK' => ?_
  unfold Oper.wp
  have ek : a.eval (.const (.int .u8 k)) = .int .u8 k := rfl
  have ev : a.eval (.const (.int .i64 v)) = .int .i64 v := rfl
  simp [execOp, ho.2.1, ho.2.2, ek, ev, run, Result.andThen]
  exact hK' _ _ (next w' own grown)
set_option maxRecDepth 20000 in
set_option maxHeartbeats 4000000 in
theorem refQuote_any (s : List UInt8) (w : World) (hs : s.length ≤ 4000) :
    Calls Tryz.prog 19 #[.string (strL s)] w fun e w' => e = .returned (.string (strL (quoteM s))) ∧ Below w.heap.size w w' := by
  have HG := Hid.mk' (strL_get s)
  have hz : (strL s).size = s.length := rfl
  have HQL : Hid (∀ j : Nat, j ≤ s.length → ((s.take j).flatMap quoteB).length ≤ 24000) := fun j hj => by
    have := quotes_len (s.take j)
    rw [List.length_take] at this; omega
  obtain ⟨R, hR⟩ : ∃ R, strL (quoteM s) = R := ⟨_, rfl⟩
  have HR := Hid.mk' hR
  rw [hR]
  clear hR
  obtain ⟨S, hS⟩ : ∃ S, strL s = S := ⟨_, rfl⟩
  have HS := Hid.mk' hS
  rw [hS] at hz HG ⊢
  clear hS
  have hmm := @run_makeMap Tryz.prog
  go_enter Tryz.func19, Tryz.ntmps19
  go_wp2
  go_loopw [3, 5] (fun x3 x5 wr => ∃ (j : Nat) (X : ByteArray), x3 = .string X ∧ x5 = .int .i64 j ∧ j ≤ s.length ∧ X.size ≤ 24001 ∧ Hid (X = strL (34 :: (s.take j).flatMap quoteB)) ∧ Below w.heap.size w wr) (fun _ x5 _ => s.length - (intOf x5).toNat)
  case atStart => exact ⟨0, _, rfl, rfl, Nat.zero_le _, by decide, Hid.mk' rfl, Below.refl _ _⟩
  case round =>
    obtain ⟨j, X, rfl, rfl, hj, hX, HX, hbr⟩ := hrel
    by_cases hlt : j < s.length
    · have hlt' : j < S.size := by omega
      have hb := HG.out j hlt'
      have hbz : (S[j].toNat : Int) < 256 := by have := S[j].toNat_lt; omega
      have hql := HQL.out (j + 1) (by omega)
      have hcut : S.extract j (j + 1) = strL [S[j]] := by
        apply ByteArray.ext
        apply Array.ext'
        have hl : S.data.toList = s := by rw [← HS.out]; rfl
        simp only [ByteArray.data_extract, Array.toList_extract, List.extract_eq_take_drop, strL]
        rw [hl, drop_get hb, Nat.add_sub_cancel_left]
        rfl
      have hB1 : (strL [S[j]]).size = 1 := rfl
      have HN : Hid (∀ (X' : ByteArray) (l : List UInt8), X' = X ++ strL l → quoteB S[j] = l → X' = strL (34 :: (s.take (j + 1)).flatMap quoteB) ∧ X'.size ≤ 24001) := fun X' l h1 h2 => by
        have : X' = strL (34 :: (s.take (j + 1)).flatMap quoteB) := by rw [h1, HX.out, strL_append, quote_at hb, h2]; rfl
        refine ⟨this, ?_⟩
        rw [this, strL_size, List.length_cons]; omega
      have HB1 : Hid (∀ B1 : ByteArray, B1 = strL [S[j]] → X ++ ⟨#[92]⟩ ++ B1 = X ++ strL [92, S[j]]) := fun B1 h => by
        rw [h, ByteArray.append_assoc]
        congr 1
      obtain ⟨B1, hB1e⟩ : ∃ B1, strL [S[j]] = B1 := ⟨_, rfl⟩
      have HB1e := Hid.mk' hB1e
      rw [hB1e] at hcut hB1
      clear hB1e hql
      rcases byte_test S[j] 34 34 rfl with ⟨h1, h2⟩ | ⟨h1, h2⟩
      · have HF := Hid.mk' (HN.out _ _ (HB1.out _ HB1e.out.symm) (by rw [h1]; rfl))
        clear HN HB1 HB1e HX HG HQL HS HR h1 hb hmm
        go_wp2
        go_roundw
        case rel => exact ⟨j + 1, _, rfl, by go_num, by omega, HF.out.2, Hid.mk' HF.out.1, hbr⟩
        case measure => simp [intOf]; omega
      rcases byte_test S[j] 92 92 rfl with ⟨h3, h4⟩ | ⟨h3, h4⟩
      · have HF := Hid.mk' (HN.out _ _ (HB1.out _ HB1e.out.symm) (by rw [h3]; rfl))
        clear HN HB1 HB1e HX HG HQL HS HR h1 h3 hb hmm
        go_wp2
        go_roundw
        case rel => exact ⟨j + 1, _, rfl, by go_num, by omega, HF.out.2, Hid.mk' HF.out.1, hbr⟩
        case measure => simp [intOf]; omega
      have hne : ¬ (S[j] = 34 ∨ S[j] = 92) := fun h => h.elim h1 h3
      rcases Int.lt_or_le (S[j].toNat : Int) 32 with h5 | h5
      rotate_left
      · have HF := Hid.mk' (HN.out (X ++ B1) [S[j]] (by rw [HB1e.out]) (by
          unfold quoteB
          rw [if_neg hne, if_pos (UInt8.le_iff_toNat_le.2 (by show 32 ≤ S[j].toNat; omega))]))
        clear HN HB1 HB1e HX HG HQL HS HR h1 h3 hne hb hmm
        go_wp2
        go_roundw
        case rel => exact ⟨j + 1, _, rfl, by go_num, by omega, HF.out.2, Hid.mk' HF.out.1, hbr⟩
        case measure => simp [intOf]; omega
      have h32 : ¬ 32 ≤ S[j] := fun h => by
        have := UInt8.le_iff_toNat_le.1 h
        have e : (32 : UInt8).toNat = 32 := rfl
        omega
      have hown0 := World.ownsMap_made wr Tryz.prog 5 (plainElem (H := Unit) Tryz.prog 3)
      have B0 : Below w.heap.size w (wr.alloc (.map #[] 0)) := hbr.alloc hbr.size _
      rcases byte_test S[j] 8 8 rfl with ⟨e8, f8⟩ | ⟨e8, f8⟩
      · have HF := Hid.mk' (HN.out (X ++ ⟨#[92]⟩ ++ ⟨#[98]⟩) [92, 98] (by rw [ByteArray.append_assoc]; rfl) (by rw [e8]; rfl))
        clear HN HB1 HB1e HX HG HQL HS HR h1 h3 hne hb h32 e8
        go_wp2_with (first | (refine insert8 hown0 (by omega) 8 98 (by omega) (by omega) _ ⟨rfl, rfl, rfl⟩ ?_; intro wm1 hown1 hgrow1; have B1 := B0.grown hgrow1 B0.size (fun j hj => by cases hj; exact hbr.size); clear hown0 hgrow1 B0) | (refine insert8 hown1 (by omega) 9 116 (by omega) (by omega) _ ⟨rfl, rfl, rfl⟩ ?_; intro wm2 hown2 hgrow2; have B2 := B1.grown hgrow2 B1.size (fun j hj => by cases hj; exact hbr.size); clear hown1 hgrow2 B1) | (refine insert8 hown2 (by omega) 10 110 (by omega) (by omega) _ ⟨rfl, rfl, rfl⟩ ?_; intro wm3 hown3 hgrow3; have B3 := B2.grown hgrow3 B2.size (fun j hj => by cases hj; exact hbr.size); clear hown2 hgrow3 B2) | (refine insert8 hown3 (by omega) 12 102 (by omega) (by omega) _ ⟨rfl, rfl, rfl⟩ ?_; intro wm4 hown4 hgrow4; have B4 := B3.grown hgrow4 B3.size (fun j hj => by cases hj; exact hbr.size); clear hown3 hgrow4 B3) | (refine insert8 hown4 (by omega) 13 114 (by omega) (by omega) _ ⟨rfl, rfl, rfl⟩ ?_; intro wm5 hown5 hgrow5; have B5 := B4.grown hgrow5 B4.size (fun j hj => by cases hj; exact hbr.size); clear hown4 hgrow5 B4) | (at_lookup; refine wpList_lookup_own_int (H := Unit) _ rfl _ _ 66 rfl 5 3 .i64 law8 Tryz.underlying66 Tryz.underlying3 (zero8 _) wr.heap.size 5 _ rfl hown5 _ (.int .u8 8) rfl (key8 _ (by omega)) ?_; intro c hat hwc; obtain rfl : c = 98 := short_at 8 c hat; clear hat hwc hown5; have hcv := conv_one wm5 98; have hnu : strOfNums [98] = ⟨#[98]⟩ := rfl))
        go_roundw
        case rel => exact ⟨j + 1, _, rfl, by go_num, by omega, HF.out.2, Hid.mk' HF.out.1, B5.alloc (by have := B5.size; omega) _⟩
        case measure => simp [intOf]; omega
      rcases byte_test S[j] 9 9 rfl with ⟨e9, f9⟩ | ⟨e9, f9⟩
      · have HF := Hid.mk' (HN.out (X ++ ⟨#[92]⟩ ++ ⟨#[116]⟩) [92, 116] (by rw [ByteArray.append_assoc]; rfl) (by rw [e9]; rfl))
        clear HN HB1 HB1e HX HG HQL HS HR h1 h3 hne hb h32 e9
        go_wp2_with (first | (refine insert8 hown0 (by omega) 8 98 (by omega) (by omega) _ ⟨rfl, rfl, rfl⟩ ?_; intro wm1 hown1 hgrow1; have B1 := B0.grown hgrow1 B0.size (fun j hj => by cases hj; exact hbr.size); clear hown0 hgrow1 B0) | (refine insert8 hown1 (by omega) 9 116 (by omega) (by omega) _ ⟨rfl, rfl, rfl⟩ ?_; intro wm2 hown2 hgrow2; have B2 := B1.grown hgrow2 B1.size (fun j hj => by cases hj; exact hbr.size); clear hown1 hgrow2 B1) | (refine insert8 hown2 (by omega) 10 110 (by omega) (by omega) _ ⟨rfl, rfl, rfl⟩ ?_; intro wm3 hown3 hgrow3; have B3 := B2.grown hgrow3 B2.size (fun j hj => by cases hj; exact hbr.size); clear hown2 hgrow3 B2) | (refine insert8 hown3 (by omega) 12 102 (by omega) (by omega) _ ⟨rfl, rfl, rfl⟩ ?_; intro wm4 hown4 hgrow4; have B4 := B3.grown hgrow4 B3.size (fun j hj => by cases hj; exact hbr.size); clear hown3 hgrow4 B3) | (refine insert8 hown4 (by omega) 13 114 (by omega) (by omega) _ ⟨rfl, rfl, rfl⟩ ?_; intro wm5 hown5 hgrow5; have B5 := B4.grown hgrow5 B4.size (fun j hj => by cases hj; exact hbr.size); clear hown4 hgrow5 B4) | (at_lookup; refine wpList_lookup_own_int (H := Unit) _ rfl _ _ 66 rfl 5 3 .i64 law8 Tryz.underlying66 Tryz.underlying3 (zero8 _) wr.heap.size 5 _ rfl hown5 _ (.int .u8 9) rfl (key8 _ (by omega)) ?_; intro c hat hwc; obtain rfl : c = 116 := short_at 9 c hat; clear hat hwc hown5; have hcv := conv_one wm5 116; have hnu : strOfNums [116] = ⟨#[116]⟩ := rfl))
        go_roundw
        case rel => exact ⟨j + 1, _, rfl, by go_num, by omega, HF.out.2, Hid.mk' HF.out.1, B5.alloc (by have := B5.size; omega) _⟩
        case measure => simp [intOf]; omega
      rcases byte_test S[j] 10 10 rfl with ⟨e10, f10⟩ | ⟨e10, f10⟩
      · have HF := Hid.mk' (HN.out (X ++ ⟨#[92]⟩ ++ ⟨#[110]⟩) [92, 110] (by rw [ByteArray.append_assoc]; rfl) (by rw [e10]; rfl))
        clear HN HB1 HB1e HX HG HQL HS HR h1 h3 hne hb h32 e10
        go_wp2_with (first | (refine insert8 hown0 (by omega) 8 98 (by omega) (by omega) _ ⟨rfl, rfl, rfl⟩ ?_; intro wm1 hown1 hgrow1; have B1 := B0.grown hgrow1 B0.size (fun j hj => by cases hj; exact hbr.size); clear hown0 hgrow1 B0) | (refine insert8 hown1 (by omega) 9 116 (by omega) (by omega) _ ⟨rfl, rfl, rfl⟩ ?_; intro wm2 hown2 hgrow2; have B2 := B1.grown hgrow2 B1.size (fun j hj => by cases hj; exact hbr.size); clear hown1 hgrow2 B1) | (refine insert8 hown2 (by omega) 10 110 (by omega) (by omega) _ ⟨rfl, rfl, rfl⟩ ?_; intro wm3 hown3 hgrow3; have B3 := B2.grown hgrow3 B2.size (fun j hj => by cases hj; exact hbr.size); clear hown2 hgrow3 B2) | (refine insert8 hown3 (by omega) 12 102 (by omega) (by omega) _ ⟨rfl, rfl, rfl⟩ ?_; intro wm4 hown4 hgrow4; have B4 := B3.grown hgrow4 B3.size (fun j hj => by cases hj; exact hbr.size); clear hown3 hgrow4 B3) | (refine insert8 hown4 (by omega) 13 114 (by omega) (by omega) _ ⟨rfl, rfl, rfl⟩ ?_; intro wm5 hown5 hgrow5; have B5 := B4.grown hgrow5 B4.size (fun j hj => by cases hj; exact hbr.size); clear hown4 hgrow5 B4) | (at_lookup; refine wpList_lookup_own_int (H := Unit) _ rfl _ _ 66 rfl 5 3 .i64 law8 Tryz.underlying66 Tryz.underlying3 (zero8 _) wr.heap.size 5 _ rfl hown5 _ (.int .u8 10) rfl (key8 _ (by omega)) ?_; intro c hat hwc; obtain rfl : c = 110 := short_at 10 c hat; clear hat hwc hown5; have hcv := conv_one wm5 110; have hnu : strOfNums [110] = ⟨#[110]⟩ := rfl))
        go_roundw
        case rel => exact ⟨j + 1, _, rfl, by go_num, by omega, HF.out.2, Hid.mk' HF.out.1, B5.alloc (by have := B5.size; omega) _⟩
        case measure => simp [intOf]; omega
      rcases byte_test S[j] 12 12 rfl with ⟨e12, f12⟩ | ⟨e12, f12⟩
      · have HF := Hid.mk' (HN.out (X ++ ⟨#[92]⟩ ++ ⟨#[102]⟩) [92, 102] (by rw [ByteArray.append_assoc]; rfl) (by rw [e12]; rfl))
        clear HN HB1 HB1e HX HG HQL HS HR h1 h3 hne hb h32 e12
        go_wp2_with (first | (refine insert8 hown0 (by omega) 8 98 (by omega) (by omega) _ ⟨rfl, rfl, rfl⟩ ?_; intro wm1 hown1 hgrow1; have B1 := B0.grown hgrow1 B0.size (fun j hj => by cases hj; exact hbr.size); clear hown0 hgrow1 B0) | (refine insert8 hown1 (by omega) 9 116 (by omega) (by omega) _ ⟨rfl, rfl, rfl⟩ ?_; intro wm2 hown2 hgrow2; have B2 := B1.grown hgrow2 B1.size (fun j hj => by cases hj; exact hbr.size); clear hown1 hgrow2 B1) | (refine insert8 hown2 (by omega) 10 110 (by omega) (by omega) _ ⟨rfl, rfl, rfl⟩ ?_; intro wm3 hown3 hgrow3; have B3 := B2.grown hgrow3 B2.size (fun j hj => by cases hj; exact hbr.size); clear hown2 hgrow3 B2) | (refine insert8 hown3 (by omega) 12 102 (by omega) (by omega) _ ⟨rfl, rfl, rfl⟩ ?_; intro wm4 hown4 hgrow4; have B4 := B3.grown hgrow4 B3.size (fun j hj => by cases hj; exact hbr.size); clear hown3 hgrow4 B3) | (refine insert8 hown4 (by omega) 13 114 (by omega) (by omega) _ ⟨rfl, rfl, rfl⟩ ?_; intro wm5 hown5 hgrow5; have B5 := B4.grown hgrow5 B4.size (fun j hj => by cases hj; exact hbr.size); clear hown4 hgrow5 B4) | (at_lookup; refine wpList_lookup_own_int (H := Unit) _ rfl _ _ 66 rfl 5 3 .i64 law8 Tryz.underlying66 Tryz.underlying3 (zero8 _) wr.heap.size 5 _ rfl hown5 _ (.int .u8 12) rfl (key8 _ (by omega)) ?_; intro c hat hwc; obtain rfl : c = 102 := short_at 12 c hat; clear hat hwc hown5; have hcv := conv_one wm5 102; have hnu : strOfNums [102] = ⟨#[102]⟩ := rfl))
        go_roundw
        case rel => exact ⟨j + 1, _, rfl, by go_num, by omega, HF.out.2, Hid.mk' HF.out.1, B5.alloc (by have := B5.size; omega) _⟩
        case measure => simp [intOf]; omega
      rcases byte_test S[j] 13 13 rfl with ⟨e13, f13⟩ | ⟨e13, f13⟩
      · have HF := Hid.mk' (HN.out (X ++ ⟨#[92]⟩ ++ ⟨#[114]⟩) [92, 114] (by rw [ByteArray.append_assoc]; rfl) (by rw [e13]; rfl))
        clear HN HB1 HB1e HX HG HQL HS HR h1 h3 hne hb h32 e13
        go_wp2_with (first | (refine insert8 hown0 (by omega) 8 98 (by omega) (by omega) _ ⟨rfl, rfl, rfl⟩ ?_; intro wm1 hown1 hgrow1; have B1 := B0.grown hgrow1 B0.size (fun j hj => by cases hj; exact hbr.size); clear hown0 hgrow1 B0) | (refine insert8 hown1 (by omega) 9 116 (by omega) (by omega) _ ⟨rfl, rfl, rfl⟩ ?_; intro wm2 hown2 hgrow2; have B2 := B1.grown hgrow2 B1.size (fun j hj => by cases hj; exact hbr.size); clear hown1 hgrow2 B1) | (refine insert8 hown2 (by omega) 10 110 (by omega) (by omega) _ ⟨rfl, rfl, rfl⟩ ?_; intro wm3 hown3 hgrow3; have B3 := B2.grown hgrow3 B2.size (fun j hj => by cases hj; exact hbr.size); clear hown2 hgrow3 B2) | (refine insert8 hown3 (by omega) 12 102 (by omega) (by omega) _ ⟨rfl, rfl, rfl⟩ ?_; intro wm4 hown4 hgrow4; have B4 := B3.grown hgrow4 B3.size (fun j hj => by cases hj; exact hbr.size); clear hown3 hgrow4 B3) | (refine insert8 hown4 (by omega) 13 114 (by omega) (by omega) _ ⟨rfl, rfl, rfl⟩ ?_; intro wm5 hown5 hgrow5; have B5 := B4.grown hgrow5 B4.size (fun j hj => by cases hj; exact hbr.size); clear hown4 hgrow5 B4) | (at_lookup; refine wpList_lookup_own_int (H := Unit) _ rfl _ _ 66 rfl 5 3 .i64 law8 Tryz.underlying66 Tryz.underlying3 (zero8 _) wr.heap.size 5 _ rfl hown5 _ (.int .u8 13) rfl (key8 _ (by omega)) ?_; intro c hat hwc; obtain rfl : c = 114 := short_at 13 c hat; clear hat hwc hown5; have hcv := conv_one wm5 114; have hnu : strOfNums [114] = ⟨#[114]⟩ := rfl))
        go_roundw
        case rel => exact ⟨j + 1, _, rfl, by go_num, by omega, HF.out.2, Hid.mk' HF.out.1, B5.alloc (by have := B5.size; omega) _⟩
        case measure => simp [intOf]; omega
      obtain ⟨n, hn⟩ : ∃ n, S[j].toNat = n := ⟨_, rfl⟩
      have HNB : Hid (quoteB S[j] = [92, 117, 48, 48, hexC (UInt8.ofNat n / 16), hexC (UInt8.ofNat n % 16)]) := by
        have e : S[j] = UInt8.ofNat n := by rw [← hn, UInt8.ofNat_toNat]
        show _ = _
        unfold quoteB
        rw [if_neg hne, if_neg h32, if_neg e8, if_neg e9, if_neg e10, if_neg e12, if_neg e13, e]
      rw [hn] at h2 h4 h5 hbz f8 f9 f10 f12 f13
      have HSH : Hid (shortZ n = 0) := by
        show _ = _
        unfold shortZ
        simp only [beq_eq_false_iff_ne, ne_eq] at f8 f9 f10 f12 f13
        rw [if_neg f8, if_neg f9, if_neg f10, if_neg f12, if_neg f13]
      clear HB1 HB1e HX HG HQL HS HR h1 h3 hne hb h32 e8 e9 e10 e12 e13
      go_wp2_with (first | (refine insert8 hown0 (by omega) 8 98 (by omega) (by omega) _ ⟨rfl, rfl, rfl⟩ ?_; intro wm1 hown1 hgrow1; have B1 := B0.grown hgrow1 B0.size (fun j hj => by cases hj; exact hbr.size); clear hown0 hgrow1 B0) | (refine insert8 hown1 (by omega) 9 116 (by omega) (by omega) _ ⟨rfl, rfl, rfl⟩ ?_; intro wm2 hown2 hgrow2; have B2 := B1.grown hgrow2 B1.size (fun j hj => by cases hj; exact hbr.size); clear hown1 hgrow2 B1) | (refine insert8 hown2 (by omega) 10 110 (by omega) (by omega) _ ⟨rfl, rfl, rfl⟩ ?_; intro wm3 hown3 hgrow3; have B3 := B2.grown hgrow3 B2.size (fun j hj => by cases hj; exact hbr.size); clear hown2 hgrow3 B2) | (refine insert8 hown3 (by omega) 12 102 (by omega) (by omega) _ ⟨rfl, rfl, rfl⟩ ?_; intro wm4 hown4 hgrow4; have B4 := B3.grown hgrow4 B3.size (fun j hj => by cases hj; exact hbr.size); clear hown3 hgrow4 B3) | (refine insert8 hown4 (by omega) 13 114 (by omega) (by omega) _ ⟨rfl, rfl, rfl⟩ ?_; intro wm5 hown5 hgrow5; have B5 := B4.grown hgrow5 B4.size (fun j hj => by cases hj; exact hbr.size); clear hown4 hgrow5 B4) | (at_lookup; refine wpList_lookup_own_int (H := Unit) _ rfl _ _ 66 rfl 5 3 .i64 law8 Tryz.underlying66 Tryz.underlying3 (zero8 _) wr.heap.size 5 _ rfl hown5 _ (.int .u8 (n : Int)) rfl (key8 _ (by omega)) ?_; intro c hat hwc; obtain rfl : c = 0 := (short_at n c hat).trans (HSH.out); clear hat hwc hown5))
      have hn32 : n < 32 := by omega
      have HEX : Hid (∀ q : Nat, q < 16 → ByteArray.extract ⟨#[48, 49, 50, 51, 52, 53, 54, 55, 56, 57, 97, 98, 99, 100, 101, 102]⟩ q (q + 1) = strL [hexC (UInt8.ofNat q)]) := fun q hq => hex_cut q hq
      obtain ⟨q, hq⟩ : ∃ q, n / 16 = q := ⟨_, rfl⟩
      obtain ⟨r, hr⟩ : ∃ r, n % 16 = r := ⟨_, rfl⟩
      have HNB2 : Hid (quoteB S[j] = [92, 117, 48, 48, hexC (UInt8.ofNat q), hexC (UInt8.ofNat r)]) := by
        show _ = _
        rw [HNB.out, ← hq, ← hr]
        have := hex_parts ⟨n, hn32⟩
        simp only [] at this
        rw [this.1, this.2]
      have hq1 : (n : Int).tdiv 16 = (q : Int) := by rw [← hq]; rfl
      have hq2 : (n : Int) / 16 = (q : Int) := by omega
      have hr1 : (n : Int).tmod 16 = (r : Int) := by rw [← hr]; rfl
      have hr2 : (n : Int) % 16 = (r : Int) := by omega
      have hqz : q ≤ 1 := by omega
      have hrz : r ≤ 15 := by omega
      have hw1 : IntKind.u8.wrap ((q : Int) + 1) = (q : Int) + 1 := by rw [IntKind.wrap_u8]; omega
      have hw2 : IntKind.u8.wrap ((r : Int) + 1) = (r : Int) + 1 := by rw [IntKind.wrap_u8]; omega
      have hw3 : IntKind.u8.wrap (q : Int) = (q : Int) := by rw [IntKind.wrap_u8]; omega
      have he1 : ByteArray.extract ⟨#[48, 49, 50, 51, 52, 53, 54, 55, 56, 57, 97, 98, 99, 100, 101, 102]⟩ q (q + 1) = strL [hexC (UInt8.ofNat q)] := HEX.out q (by omega)
      have he2 : ByteArray.extract ⟨#[48, 49, 50, 51, 52, 53, 54, 55, 56, 57, 97, 98, 99, 100, 101, 102]⟩ r (r + 1) = strL [hexC (UInt8.ofNat r)] := HEX.out r (by omega)
      obtain ⟨E1, hE1⟩ : ∃ E1, strL [hexC (UInt8.ofNat q)] = E1 := ⟨_, rfl⟩
      obtain ⟨E2, hE2⟩ : ∃ E2, strL [hexC (UInt8.ofNat r)] = E2 := ⟨_, rfl⟩
      have hz1 : E1.size = 1 := by rw [← hE1]; rfl
      have hz2 : E2.size = 1 := by rw [← hE2]; rfl
      have HF := Hid.mk' (HN.out (X ++ ⟨#[92, 117, 48, 48]⟩ ++ E1 ++ E2) _ (by
        rw [← hE1, ← hE2, ByteArray.append_assoc, ByteArray.append_assoc]
        rfl) HNB2.out)
      rw [hE1] at he1
      rw [hE2] at he2
      have B6 := B5.drew
      clear HN HNB HNB2 HSH B5 hmm hcut hB1 hn hbr HEX hE1 hE2 hq hr
      go_region
      go_wp2
      go_roundw
      case rel => exact ⟨j + 1, _, rfl, by go_num, by omega, HF.out.2, Hid.mk' HF.out.1, B6⟩
      case measure => simp [intOf]; omega
    · have hXf : X ++ ⟨#[34]⟩ = R := by
        rw [HX.out, ← HR.out, List.take_of_length_le (by omega)]
        exact strL_append _ [34]
      clear HX HG HQL HS HR hmm
      go_wp2
      go_ret
      exact ⟨rfl, hbr⟩
end Go.Proofs.YtjjoedkigjekcaaGreatDoor

/-
  What is proved here: that errors.Is tells a Fault around another named error from the one that is asked for; that RangesParses answers true at any text.
-/
import Derived.Test.YtlnehhfljjeifaaGreatDoorF5
namespace Go.Proofs.YtlnehhfljjeifaaGreatDoor
open Go.RowKit Go.Extern.Stop Go.Stop Go.Extern

namespace Is
theorem noIsE (v : Value) (xT : TypeId) (w : World) : (Instr.typeAssert (.iface 236 v) xT 156 true).run Tryz.prog w = .ok (.tuple #[.nilIface, .bool false]) w := run_typeAssert_lacksB Tryz.underlying156 (by kernel_rfl) (by kernel_rfl) v xT w
theorem noUnwrapE (v : Value) (xT : TypeId) (w : World) : (Instr.typeAssert (.iface 236 v) xT 151 true).run Tryz.prog w = .ok (.tuple #[.nilIface, .bool false]) w := run_typeAssert_lacksB Tryz.underlying151 (by kernel_rfl) (by kernel_rfl) v xT w
theorem noUnwrapsE (v : Value) (xT : TypeId) (w : World) : (Instr.typeAssert (.iface 236 v) xT 153 true).run Tryz.prog w = .ok (.tuple #[.nilIface, .bool false]) w := run_typeAssert_lacksB Tryz.underlying153 (by kernel_rfl) (by kernel_rfl) v xT w
end Is
set_option maxHeartbeats 2000000 in
/-- errors.Is(e, x), e a *api.Fault that wraps another named error: false. -/
theorem is_other (pb po : Nat) (b b' : Addr) (w : World) (h1 : w.cell? ⟨pb, po + 1, none⟩ = some (.iface 236 (.pointer (some b)))) (hne : b ≠ b') (hb : Plain w b) (hb' : Plain w b') :
    Calls Tryz.prog 32 #[.iface 67 (.pointer (some ⟨pb, po, none⟩)), .iface 236 (.pointer (some b'))] w fun e w' => e = .returned (.bool false) ∧ w = w' := by
  obtain ⟨i, hi, hcmp⟩ := Option.map_eq_some_iff.1 Is.comp
  obtain ⟨j, hj, hjs⟩ := Option.map_eq_some_iff.1 Is.size
  have h8 := @run_callFunc_extern Tryz.prog 56 _ Extern.ReflectliteType.typeOf Tryz.func56 (by kernel_rfl) (by kernel_rfl) (by kernel_rfl) (by kernel_rfl)
  have h32 := @run_callFunc_extern Tryz.prog 206 _ Is.cmpEntry Tryz.func206 (by kernel_rfl) (by kernel_rfl) (by kernel_rfl) (by kernel_rfl)
  have tT := Is.typeOf
  have cT := Is.comparable
  have mR := Is.methodComparable
  have nW := Is.noIsF
  have uW := Is.hasUnwrapF
  have mU := Is.methodUnwrap
  have nE := Is.noIsE
  have uE := Is.noUnwrapE
  have vE := Is.noUnwrapsE
  obtain ⟨ca, ta, ha⟩ := hb
  obtain ⟨cb, tb, hb⟩ := hb'
  have heq := run_eql_iface_ptr_other (P := Tryz.prog) w Tryz.underlying30 Tryz.underlying236 hi hcmp hj (by rw [hjs]; decide) hne ha hb
  have hty := run_eql_iface_types (P := Tryz.prog) 67 236 (.pointer (some ⟨pb, po, none⟩)) (.pointer (some b')) Tryz.underlying30 (by decide) w
  clear ha hb hne
  go_enter Tryz.func32, Tryz.ntmps32
  go_wp2
  refine wp_loop_rounds 2 ?_
  rw [rounds_succ]
  go_wp2
  rw [rounds_succ]
  go_wp2
  go_ret
  exact ⟨rfl, rfl⟩
set_option maxHeartbeats 2000000 in
theorem lawIs_not (v : Value) (B : Nat) (at_ : Int) (c : Nat) (w : World) (p : Nat → Addr) (hy : GlY p w) (hc : c = 2 ∨ c = 4 ∨ c = 5 ∨ c = 6) (hf : Flt w v B at_ (p c)) :
    Calls Tryz.prog 12 #[v, .int .i64 0, .int .i64 18] w fun e w' => e = .returned (.bool false) ∧ Below w.heap.size w w' := by
  obtain ⟨b, -, rfl, h0, h1⟩ := hf
  have hg := hy.x.gl
  have hb := lt_of_cell h0
  have hgA : (w.alloc (.cells #[.pointer none] 67)).cell? ⟨2, 0, none⟩ = some (.iface 144 (.agg #[.pointer (some ⟨27, 30, none⟩)])) := by
    rw [World.cell?_alloc_lt _ _ ⟨2, 0, none⟩ (lt_of_cell hg.et)]; exact hg.et
  have htA : (w.alloc (.cells #[.pointer none] 67)).cell? ⟨w.heap.size, 0, none⟩ = some (.pointer none) := by simp
  have hfA : (w.alloc (.cells #[.pointer none] 67)).frozen? ⟨w.heap.size, 0, none⟩ = false := by simp
  have HA := Hid.mk' (as_hit2 ⟨b, 0, none⟩ _ _ _ hgA htA hfA)
  have HB : Hid (∀ w', Below w.heap.size (w.alloc (.cells #[.pointer none] 67)) w' → Below w.heap.size w w') := fun w' h => ((Below.refl _ _).alloc (Nat.le_refl _) _).trans h
  have hne := hg.ne18 c (by omega)
  have HO : Hid (∀ w', Below w.heap.size w w' → w'.cell? ⟨b, 0 + 1, none⟩ = some (.iface 236 (.pointer (some (p c)))) → _) := fun w' hbw hk => is_other b 0 (p c) (p 18) w' hk hne ((hy.below hbw).pl c (by omega)) ((hy.below hbw).pl 18 (by omega))
  have HN : Hid (∀ w', Below w.heap.size w w' → _) := fun w' hbw => named_any 18 w' p (hg.below hbw) (by unfold Code; omega)
  by_cases hat : at_ = 0
  · subst hat
    clear hgA htA hfA hc hg hy hne
    go_enter Tryz.func12, Tryz.ntmps12
    go_wp2_with (first | (go_at_call 31; refine HA.out.mono ?_; rintro e w1 ⟨rfl, hc, hbel⟩; have HW := HB.out _ hbel; have k0 := (HW.cell (p := ⟨b, 0, none⟩) hb).trans h0; have k1 := (HW.cell (p := ⟨b, 1, none⟩) hb).trans h1; clear h0 h1) | (go_at_call 33; refine (HN.out w1 HW).mono ?_; rintro e w2 ⟨rfl, rfl⟩) | (go_at_call 32; refine (HO.out w1 HW k1).mono ?_; rintro e w2 ⟨rfl, rfl⟩))
    go_ret
    exact ⟨rfl, HW⟩
  · have hz : (at_ == 0) = false := by simpa using hat
    clear hgA htA hfA hc hg hy hne hat
    go_enter Tryz.func12, Tryz.ntmps12
    go_wp2_with (first | (go_at_call 31; refine HA.out.mono ?_; rintro e w1 ⟨rfl, hc, hbel⟩; have HW := HB.out _ hbel; have k0 := (HW.cell (p := ⟨b, 0, none⟩) hb).trans h0; have k1 := (HW.cell (p := ⟨b, 1, none⟩) hb).trans h1; clear h0 h1))
    go_ret
    exact ⟨rfl, HW⟩
theorem parseL_code : ∀ (f : Nat) (s : List UInt8) (k : Nat) (acc : List Rg), (parseL f s k acc).2.2 = 0 ∨ (parseL f s k acc).2.2 = 2 ∨ (parseL f s k acc).2.2 = 5
  | 0, _, _, _ => .inl rfl
  | f + 1, s, k, acc => by
    unfold parseL
    split
    · exact .inl rfl
    · split
      · exact .inr (.inl rfl)
      · split
        · exact .inr (.inr rfl)
        · exact parseL_code f _ _ _
theorem parseL_nil (k : Nat) (acc : List Rg) (f : Nat) : parseL (f + 1) [] k acc = (acc, 0, 0) := by simp [parseL]
/-- what is told of a text that is refused, of at most 200 bytes -/
theorem parseM_bad {s : List UInt8} (hl : s.length ≤ 200) (h : (parseM s).2.2 ≠ 0) : (parseM s).1 = [] ∧ s ≠ [] ∧ ((parseM s).2.2 = 2 ∨ (parseM s).2.2 = 4 ∨ (parseM s).2.2 = 5 ∨ (parseM s).2.2 = 6) := by
  have hs : s ≠ [] := by
    rintro rfl
    apply h
    unfold parseM
    simp only [List.length_nil, parseL_nil]
    rfl
  have hp := parseL_code (s.length + 1) s 0 []
  have hlen := parseL_len (s.length + 1) s 0 []
  unfold parseM at h ⊢
  generalize parseL (s.length + 1) s 0 [] = x at *
  simp only [] at h ⊢
  by_cases h0 : x.2.2 = 0
  · rw [if_pos h0] at h ⊢
    by_cases hc : (chk x.1).2 = 0
    · rw [if_pos hc] at h; exact absurd rfl h
    · rw [if_neg hc] at h ⊢
      refine ⟨rfl, hs, ?_⟩
      have hlen2 : x.1.length ≤ 200 := by simp at hlen; omega
      have h18 : (chk x.1).2 ≠ 18 := by
        unfold chk faultsM
        rw [if_neg (by omega)]
        cases hf : faultsTo x.1 x.1.length with
        | nil => simp
        | cons y t =>
          have := (faultsTo_mem x.1 x.1.length y (by rw [hf]; simp)).2.2
          show y.2 ≠ 18
          omega
      rcases chk_code x.1 with q | q | q | q
      · exact absurd q hc
      · exact .inr (.inl q)
      · exact .inr (.inr (.inr q))
      · exact absurd q h18
  · rw [if_neg h0] at h ⊢
    refine ⟨rfl, hs, ?_⟩
    rcases hp with q | q | q
    · exact absurd q h0
    · exact .inl q
    · exact .inr (.inr (.inl q))
theorem parseM_good {s : List UInt8} (h : (parseM s).2.2 = 0) : ∃ l, parseM s = (l, 0, 0) ∧ l.length ≤ s.length := by
  have hlen := parseL_len (s.length + 1) s 0 []
  unfold parseM at h ⊢
  generalize parseL (s.length + 1) s 0 [] = x at *
  simp only [] at h ⊢
  by_cases h0 : x.2.2 = 0
  · rw [if_pos h0] at h ⊢
    by_cases hc : (chk x.1).2 = 0
    · rw [if_pos hc]; exact ⟨x.1, rfl, by simpa using hlen⟩
    · rw [if_neg hc] at h; exact absurd h hc
  · rw [if_neg h0] at h; exact absurd h h0
set_option maxRecDepth 20000 in
set_option maxHeartbeats 8000000 in
theorem parses3_any (w : World) (p : Nat → Addr) (hy : GlY p w) (hm : Ml w) (s : ByteArray) (hs : s.size ≤ maxLen) :
    Calls Tryz.prog 4 #[.string s] w fun e w' => e = .returned (.bool true) ∧ Below w.heap.size w w' := by
  unfold maxLen at hs
  have HA := Hid.mk' (awake3_any w p hy.x.gl hm)
  by_cases hbig : 200 < s.size
  · have hd : decide ((200 : Int) < (s.size : Int)) = true := decide_eq_true (by omega)
    have hd2 : decide (200 < s.size) = true := decide_eq_true hbig
    clear hy hm
    go_enter Tryz.func4, Tryz.ntmps4
    go_wp2_with fail
    refine HA.out.mono ?_
    rintro e w1 ⟨rfl, hb⟩
    go_wp2
    go_ret
    exact ⟨rfl, hb⟩
  have hd : decide ((200 : Int) < (s.size : Int)) = false := decide_eq_false (by omega)
  have hd2 : decide (200 < s.size) = false := decide_eq_false hbig
  have hsl : s.data.toList.length = s.size := rfl
  have HP : Hid (∀ W, Below w.heap.size w W → _) := fun W hb => parse_any s W p (hy.x.gl.below hb) (hm.below hb) (by omega)
  by_cases hc : (parseM s.data.toList).2.2 = 0
  · obtain ⟨l, hl, hll⟩ := parseM_good hc
    obtain ⟨hback, hchk⟩ := parse_back hl
    have hc0 : chk l = (0, 0) := by
      unfold chk at *
      cases hf : faultsM l with
      | nil => rfl
      | cons x t =>
        rw [hf] at hchk
        exact absurd hchk (faultsM_ne l x (by rw [hf]; simp))
    have HR : Hid (∀ W v, Tab W v l → Calls Tryz.prog 7 #[v] W fun e w' => e = .returned (.bool true) ∧ Below W.heap.size W w') := fun W v ht => by
      have := right3_any v l W ht (by omega)
      rw [decide_eq_true hchk] at this
      exact this
    have hstr : strL (textT l) = s := by
      rw [← hback]
      apply ByteArray.ext
      simp [strL]
    have HT : Hid (∀ W v, Below w.heap.size w W → Tab W v l → Calls Tryz.prog 8 #[v] W fun e w' => e = .returned (.string s) ∧ Below W.heap.size W w') := fun W v hb ht => by
      have := text_any v l W p (hy.x.gl.below hb) ht hc0 (by omega) (hy.x.below hb).d64 (hy.x.below hb).tab
      rw [hstr] at this
      exact this
    rw [hl] at HP
    clear hy hm hc hl hback hchk hc0 hstr hll hbig
    go_enter Tryz.func4, Tryz.ntmps4
    go_wp2_with fail
    refine HA.out.mono ?_
    rintro e w1 ⟨rfl, hb1⟩
    go_wp2_with fail
    refine (HP.out w1 hb1).mono ?_
    rintro e w2 ⟨v, fv, rfl, ht, hsay, hb2⟩
    obtain rfl : fv = .nilIface := by
      rcases hsay with ⟨-, h2⟩ | ⟨h1, -⟩
      · exact h2
      · exact absurd rfl h1
    have hb02 := hb1.trans (hb2.mono hb1.size)
    have H2 := Hid.mk' (HR.out w2 v ht)
    have HTT := Hid.mk' ht
    obtain ⟨ua, uc, rfl, -⟩ := id ht
    clear hsay HP ht hb2
    go_wp2_with fail
    refine H2.out.mono ?_
    rintro e w3 ⟨rfl, hb3⟩
    have hb03 := hb02.trans (hb3.mono hb02.size)
    have H3 := Hid.mk' (HT.out w3 _ hb03 (HTT.out.below hb3))
    clear H2 HTT hb3
    go_wp2_with fail
    refine H3.out.mono ?_
    rintro e w4 ⟨rfl, hb4⟩
    go_wp2
    go_ret
    exact ⟨ret_bool (by first | rfl | simp), hb03.trans (hb4.mono hb03.size)⟩
  · obtain ⟨h1, h2, h3⟩ := parseM_bad (by rw [hsl]; omega) hc
    have hne : s.toList.isEmpty = false := by
      rw [ByteArray.toList_eq]
      cases hq : s.data.toList with
      | nil => exact absurd hq h2
      | cons x t => rfl
    have HN : Hid (∀ W v B at_ c, Below w.heap.size w W → (c = 2 ∨ c = 4 ∨ c = 5 ∨ c = 6) → Flt W v B at_ (p c) → _) := fun W v B at_ c hb hc hf => lawIs_not v B at_ c W p (hy.below hb) hc hf
    generalize hpm : parseM s.data.toList = x at *
    obtain ⟨x1, x2, x3⟩ := x
    simp only [] at h1 h3 hc
    subst h1
    simp only [] at HP
    have H3 := Hid.mk' h3
    have HC := Hid.mk' hc
    clear hy hm h2 hpm hbig h3 hc hsl
    go_enter Tryz.func4, Tryz.ntmps4
    go_wp2_with fail
    refine HA.out.mono ?_
    rintro e w1 ⟨rfl, hb1⟩
    go_wp2_with fail
    refine (HP.out w1 hb1).mono ?_
    rintro e w2 ⟨v, fv, rfl, ht, hsay, hb2⟩
    have hf : Flt w2 fv w1.heap.size x2 (p x3) := by
      rcases hsay with ⟨g1, -⟩ | ⟨-, g2⟩
      · exact absurd (by injection g1) HC.out
      · exact g2
    have hb02 := hb1.trans (hb2.mono hb1.size)
    have H4 := Hid.mk' (HN.out w2 fv _ x2 x3 hb02 H3.out hf)
    obtain ⟨ua, uc, rfl, -⟩ := ht
    obtain ⟨fb, -, rfl, -, -⟩ := hf
    clear hsay HP hb2 HC H3
    go_wp2_with fail
    refine H4.out.mono ?_
    rintro e w3 ⟨rfl, hb3⟩
    go_wp2
    go_ret
    exact ⟨ret_bool (by first | rfl | simp), hb02.trans (hb3.mono hb02.size)⟩
end Go.Proofs.YtlnehhfljjeifaaGreatDoor

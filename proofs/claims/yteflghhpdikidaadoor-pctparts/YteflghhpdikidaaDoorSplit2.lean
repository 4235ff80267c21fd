/-
  What is proved here: what pct.Split answers at every text of at most 1000 bytes and every byte by which a text may be split.
-/
import Derived.Test.YteflghhpdikidaaDoorSplit1
namespace Go.Proofs.YteflghhpdikidaaDoor
open Go.RowKit

theorem Tryd.infoStr : (Tryd.prog.info? 9).map (fun i => (i.zero, i.size, i.bytes)) = some (some (.string ByteArray.empty), 1, 16) := by kernel_rfl
theorem Texts.own {w : World} {B : Nat} {v : Value} {ts : List ByteArray} (h : w.ownsRow B 9 1 v ts.length (ts.map Value.string)) : Texts w v ts := by
  rcases h.2 with ⟨rfl, h0⟩ | ⟨g, cap, cur, rfl, _, _⟩
  · exact ⟨none, 0, by rw [h0], fun j hj => by omega⟩
  · refine ⟨some ⟨g, 0, none⟩, cap, rfl, fun j hj => ⟨g, 0, rfl, ?_⟩⟩
    rw [Nat.zero_add, h.cellAt j (by omega)]
    simp [List.getElem?_eq_getElem hj]
theorem Texts.below {w w' : World} {v : Value} {ts : List ByteArray} (h : Texts w v ts) (hb : Below w.heap.size w w') : Texts w' v ts := by
  obtain ⟨a, cap, rfl, h⟩ := h
  refine ⟨a, cap, rfl, fun j hj => ?_⟩
  obtain ⟨b, off, rfl, hc⟩ := h j hj
  exact ⟨b, off, rfl, (hb.cell (p := ⟨b, off + j, none⟩) (lt_of_cell hc)).trans hc⟩
/-- what a call that answers texts and an error leaves -/
def AnsS (w : World) (r : List ByteArray × Nat × Nat) (p : Nat → Addr) (e : Ending) (w' : World) : Prop :=
  Below w.heap.size w w' ∧ ((r.2.2 = 0 ∧ ∃ v, e = .returned (.tuple #[v, .nilIface]) ∧ Texts w' v r.1) ∨
    (r.2.2 ≠ 0 ∧ ∃ v, e = .returned (.tuple #[.slice none 0 0, v]) ∧ Flt w' v w.heap.size r.2.1 (p r.2.2)))
/-- what holds while the parts are gone through: the captured place (the block Bf), all other blocks below N as they were -/
structure InvS (W0 : World) (N Bf : Nat) (ts : List ByteArray) (a : Nat) (out : Value) (wr : World) : Prop where
  own : wr.ownsRow N 9 1 out ts.length (ts.map Value.string)
  at_ : wr.heap[Bf]? = some (.cells #[.int .i64 a] 3 (0, 0))
  keep : Below Bf W0 wr
  rest : ∀ k, k < N → k ≠ Bf → wr.heap[k]? = W0.heap[k]?
  size : N ≤ wr.heap.size

theorem InvS.cellAt {W0 : World} {N Bf : Nat} {ts : List ByteArray} {a : Nat} {out : Value} {wr : World} (h : InvS W0 N Bf ts a out wr) {k : Nat} (j : Nat) (hk : k < N) (hne : k ≠ Bf) : wr.cell? ⟨k, j, none⟩ = W0.cell? ⟨k, j, none⟩ := by
  simp only [World.cell?, h.rest k hk hne]
theorem invS_step {W0 : World} {N Bf : Nat} {ts : List ByteArray} {a : Nat} {out v' : Value} {wr w3 w4 : World} {t : ByteArray} (h : InvS W0 N Bf ts a out wr) (hb : Below wr.heap.size wr w3) (tmp : Obj)
    (hown' : w4.ownsRow N 9 1 v' (ts.length + 1) (ts.map Value.string ++ [.string t])) (hgrow : (w3.alloc tmp).grownBy w4 out.ownBlock) (a' : Nat) (hBN : Bf < N := by omega) :
    w4.cell? ⟨Bf, 0, none⟩ = some (.int .i64 a) ∧ w4.frozen? ⟨Bf, 0, none⟩ = false ∧ InvS W0 N Bf (ts ++ [t]) a' v' (w4.setCell ⟨Bf, 0, none⟩ (.int .i64 a')) := by
  have hs3 := hb.size
  have hNs := h.size
  have hlt : ∀ k, out.ownBlock = some k → N ≤ k := fun k hk => (h.own.lt k hk).1
  have hkeep : ∀ k, k < N → w4.heap[k]? = wr.heap[k]? := fun k hk => by
    rw [hgrow.block k (by simp; omega) (fun e => by have := hlt k e.symm; omega), Below.heap_alloc _ _ _ (by omega), hb.block k (by omega)]
  have hat : w4.heap[Bf]? = some (.cells #[.int .i64 a] 3 (0, 0)) := (hkeep Bf hBN).trans h.at_
  have hb4 : Below Bf wr w4 := ((hb.mono (by omega)).alloc (by omega) _).grown hgrow (by simp; omega) (fun k hk => by have := hlt k hk; omega)
  refine ⟨cell_of_one hat, free_of_one hat, ⟨?_, one_setCell hat, ?_, ?_, ?_⟩⟩
  · have := ownsRow_setCell_other hown' (a := ⟨Bf, 0, none⟩) (fun e => by have h1 := (hown'.lt _ e).1; simp at h1; omega) (.int .i64 a')
    simpa using this
  · exact h.keep.trans (hb4.setCell (p := ⟨Bf, 0, none⟩) (Nat.le_refl _) _)
  · intro k hk hne
    rw [heap_setCell_other _ _ _ _ hne, hkeep k hk, h.rest k hk hne]
  · have := hgrow.size
    simp at this ⊢
    omega

theorem un_place (l : List UInt8) (k c : Nat) (h : Pct.un l 0 = ([], k, c)) (hc : c ≠ 0) : k < l.length := by
  have : ∀ n (l : List UInt8) a, l.length ≤ n → (Pct.un l a).2.2 ≠ 0 → (Pct.un l a).2.1 < a + l.length := by
    intro n
    induction n with
    | zero => intro l a hl h; obtain rfl : l = [] := List.eq_nil_of_length_eq_zero (by omega); exact absurd rfl h
    | succ n ih =>
      intro l a hl h
      match l with
      | [] => exact absurd rfl h
      | c :: t =>
        simp only [List.length_cons] at hl ⊢
        have h1 := ih t (a + 1) (by omega)
        have h2 := ih (t.drop 2) (a + 3) (by simp; omega)
        simp only [List.length_drop] at h2
        by_cases h37 : c.toNat = 37
        · obtain ⟨v, e, he⟩ : ∃ v e, Pct.esc t = (v, e) := ⟨_, _, rfl⟩
          by_cases h0 : e = 0
          · subst h0
            obtain ⟨hu, -, hl2⟩ := Pct.un_ok a v h37 he
            rw [hu] at h ⊢
            unfold Pct.glue at h ⊢
            split at h
            · exact absurd rfl h
            · rename_i hn
              rw [if_neg hn]
              have := h2 hn
              show (Pct.un (t.drop 2) (a + 3)).2.1 < _
              omega
          · rw [Pct.un_bad a v e h37 he h0]
            show a < _
            omega
        · rw [Pct.un_plain t a h37] at h ⊢
          unfold Pct.glue at h ⊢
          split at h
          · exact absurd rfl h
          · rename_i hn
            rw [if_neg hn]
            have := h1 hn
            show (Pct.un t (a + 1)).2.1 < _
            omega
  have := this _ l 0 (Nat.le_refl _) (by rw [h]; exact hc)
  rw [h] at this
  simpa using this

set_option maxRecDepth 100000 in
set_option maxHeartbeats 2000000 in
theorem split_any (s : ByteArray) (b : UInt8) (w : World) (p : Nat → Addr) (hg : Gl p w) (hs : s.size ≤ 1000) (hm : ∃ m, w.cell? ⟨19, 0, none⟩ = some (.int .i64 m)) (h37 : b.toNat ≠ 37) (hh : Pct.hex b.toNat = none) :
    Calls Tryd.prog 19 #[.string s, .int .u8 b.toNat] w (AnsS w (Pct.spl (Pct.cut b s.data.toList) 0) p) := by
  obtain ⟨i0, hi, hz0, hz1, hz2⟩ := info_parts Tryd.infoStr
  have hb256 : b.toNat < 256 := b.toNat_lt
  have hix := run_index_bools (hasB [capHex, smallHex]) b.toNat hb256
  rw [hasB_two, hex_any _ hb256, hh] at hix
  have hz : ((b.toNat : Int) == 37) = false := by simp; omega
  have HS := Hid.mk' (setOf_any _ [capHex, smallHex] _ (texts_new w [capHex, smallHex] 9) (by simp) (by intro s hs; simp at hs; rcases hs with rfl | rfl <;> decide))
  have HL : Hid (∀ w1 : World, Below w.heap.size w w1 → _) := fun w1 hb => libSplit_any s b w1 hs (by obtain ⟨m, hm⟩ := hm; exact ⟨m, (hb.cell (lt_of_cell hm)).trans hm⟩)
  have HG := Hid.mk' hg
  have hpn := Pct.cut_len b s.data.toList
  have HPP := Hid.mk' (Pct.cut_part b s.data.toList)
  have hsl : s.data.toList.length = s.size := rfl
  rw [hsl] at hpn HPP
  clear hg hm h37 hh hsl
  generalize Pct.cut b s.data.toList = ps at *
  generalize hasB [capHex, smallHex] = F at HS hix
  go_enter Tryd.func19, Tryd.ntmps19
  go_wp2_with fail
  refine HS.out.mono ?_
  rintro e w1 ⟨rfl, hb1⟩
  have h1 := ((Below.refl _ w).alloc (Nat.le_refl _) _).trans (hb1.mono (by simp))
  have hcv := conv_one (w1.alloc (.cells #[.int .i64 0] 3)) b.toNat
  have hcb : strOfNums [(b.toNat : Int)] = ⟨#[b]⟩ := by simp [strOfNums]
  rw [hcb] at hcv
  simp only [World.size_alloc] at hcv
  clear hb1 HS
  go_wp2_with fail
  refine (HL.out _ ((h1.alloc h1.size _).alloc (by have := h1.size; simp; omega) _)).mono ?_
  rintro e w2 ⟨rfl, hw2⟩
  obtain ⟨hN, hat, hpc, hbw⟩ : w2.heap.size = w1.heap.size + 3 ∧ w2.heap[w1.heap.size]? = some (.cells #[.int .i64 (0 : Nat)] 3 (0, 0)) ∧ (∀ j, j < ps.length → w2.cell? ⟨w1.heap.size + 2, j, none⟩ = some (.string (toB (ps.getD j [])))) ∧ Below w.heap.size w w2 := by
    subst hw2
    refine ⟨by simp, ?_, fun j hj => ?_, ((h1.alloc h1.size _).alloc (by have := h1.size; simp; omega) _).alloc (by have := h1.size; simp; omega) _⟩
    · rw [Below.heap_alloc _ _ _ (by simp; omega), Below.heap_alloc _ _ _ (by simp)]; exact heap_alloc_new _ _
    · have e : w1.heap.size + 2 = ((w1.alloc (.cells #[.int .i64 0] 3)).alloc (.cells #[.int .u8 b.toNat] 5)).heap.size := by simp
      rw [e, World.cell?_alloc_new]
      simp [hj]
  have hB0 : w.heap.size ≤ w1.heap.size := h1.size
  have HPC := Hid.mk' hpc
  have HAT := Hid.mk' hat
  have HBW := Hid.mk' hbw
  clear hw2 hcv hcb h1 HL hpc hat hbw
  simp only [World.size_alloc]
  generalize w1.heap.size = Bf at *
  go_wp2
  go_loopw [6, 30] (fun out i wr => ∃ (j : Nat) (ts : List ByteArray) (a : Nat), j ≤ ps.length ∧ i = .int .i64 j ∧ ts.length ≤ j ∧ a ≤ 1001 * j ∧ InvS w2 (Bf + 3) Bf ts a out wr ∧ Hid (Pct.spl ps 0 = Pct.glueS ts (Pct.spl (ps.drop j) a))) (fun _ i _ => ps.length - (intOf i).toNat)
  case atStart => exact ⟨0, [], 0, Nat.zero_le _, rfl, Nat.le_refl _, Nat.le_refl _, ⟨World.ownsRow_nil _ _ _ _, HAT.out, Below.refl _ _, fun _ _ _ => rfl, by omega⟩, Pct.spl_start ps⟩
  case round =>
    obtain ⟨j, ts, a, hj, rfl, htl, ha, hinv, HD⟩ := hrel
    by_cases hlt : j < ps.length
    · have hc := (hinv.cellAt (k := Bf + 2) j (by omega) (by omega)).trans (HPC.out j hlt)
      have hpl : (ps.getD j []).length ≤ s.size := HPP.out _ (by rw [List.getD, List.getElem?_eq_getElem hlt]; exact List.getElem_mem hlt)
      have HDC : Hid (ps.drop j = ps.getD j [] :: ps.drop (j + 1)) := by
        show _ = _
        rw [List.drop_eq_getElem_cons hlt]; simp [List.getD, hlt]
      generalize ps.getD j [] = q at *
      have hqs := toB_size q
      rcases un_cases q with ⟨l, hu⟩ | ⟨k, c, hu, hcc⟩
      · have HU := Hid.mk' (unescape_ok (toB q) wr (by rw [hqs]; omega) l hu)
        have HR : Hid (Pct.spl ps 0 = Pct.glueS (ts ++ [Pct.str l]) (Pct.spl (ps.drop (j + 1)) (a + q.length + 1))) := by
          show _ = _
          rw [HD.out, HDC.out, Pct.spl_ok _ _ hu, Pct.glueS_glueS]; rfl
        clear hu
        generalize Pct.str l = t at *
        generalize toB q = qb at *
        go_wp2_with fail
        refine HU.out.mono ?_
        rintro e w3 ⟨rfl, hb3⟩
        have ho3 := owns_below hinv.own hb3
        have hs3 := hb3.size
        have hNs := hinv.size
        go_wp2_with (at_builtin; refine wpList_append_own _ rfl _ _ 38 rfl (Bf + 3) 9 i0 (.string ByteArray.empty) 1 16 Tryd.underlying38 hi hz0 hz1 hz2 rfl (by decide) _ _ _ rfl (ho3.alloc _) ⟨w3.heap.size, 0, none⟩ 1 1 [.string t] rfl rfl (cell_one_new _ _ _) (by intro u hu; simp at hu; subst hu; rfl) (by unfold maxLen; omega) (by omega) (by simp; omega) ?_; intro v' w4 hown' hgrow _; obtain ⟨cf, ff, hinv'⟩ := invS_step hinv hb3 _ hown' hgrow (a + q.length + 1); have HI' := Hid.mk' hinv'; clear hown' hgrow ho3 hinv')
        go_roundw
        case rel =>
          have e : (a : Int) + ((q.length : Int) + 1) = ((a + q.length + 1 : Nat) : Int) := by omega
          rw [e]
          exact ⟨j + 1, ts ++ [t], a + q.length + 1, by omega, by go_num, by simp; omega, by omega, HI'.out, HR⟩
        case measure => simp [intOf]; omega
      · have hbw := HBW.out.trans (hinv.keep.mono hB0)
        have HU := Hid.mk' (unescape_err (toB q) wr p (HG.out.below hbw) (by rw [hqs]; omega) k c hu (by omega))
        have HR : Hid (Pct.spl ps 0 = ([], a + k, c)) := by
          show _ = _
          rw [HD.out, HDC.out, Pct.spl_bad _ _ hu (by omega), Pct.glueS_bad _ _ _ (by omega)]
        have hkb : k ≤ q.length := by have := un_place q k c hu (by omega); omega
        have hcf := cell_of_one hinv.at_
        clear hu
        generalize toB q = qb at *
        go_wp2_with fail
        refine HU.out.mono ?_
        rintro e w3 ⟨fb, rfl, hf, hb3⟩
        have h3 := hbw.trans (hb3.mono hbw.size)
        have hcf3 := (hb3.cell (p := ⟨Bf, 0, none⟩) (lt_of_cell hcf)).trans hcf
        obtain ⟨b', -, hbe, f0, f1⟩ := hf
        obtain rfl : fb = b' := by simpa using hbe
        have HP := Hid.mk' (placed_fault 37 Bf fb k (a + k) (p c) w3 enters_split1 (fun w4 hb => split1_any Bf a k w4 (by omega) (by omega) (by omega) (by omega) ((hb.cell (p := ⟨Bf, 0, none⟩) (lt_of_cell hcf3)).trans hcf3)) (HG.out.below h3).et f0 f1)
        clear f0 f1 hbe hcf hcf3
        go_wp2_with (go_at_call 36; refine HP.out.mono ?_; rintro e w4 ⟨v, rfl, hv, hb4⟩)
        go_ret2
        rw [HR.out]
        exact ⟨h3.trans (hb4.mono h3.size), .inr ⟨(show c ≠ 0 by omega), v, rfl, hv.weaken h3.size (show (a : Int) + k = ((a + k : Nat) : Int) by omega)⟩⟩
    · have HE : Hid (Pct.spl ps 0 = (ts, 0, 0)) := by
        show _ = _
        rw [HD.out, List.drop_of_length_le (by omega)]
        exact Pct.glueS_nil ts
      have HT := Hid.mk' (Texts.own hinv.own)
      have hbw := HBW.out.trans (hinv.keep.mono hB0)
      clear hinv
      go_wp2
      go_ret2
      rw [HE.out]
      exact ⟨hbw, .inl ⟨rfl, _, rfl, HT.out⟩⟩
end Go.Proofs.YteflghhpdikidaaDoor

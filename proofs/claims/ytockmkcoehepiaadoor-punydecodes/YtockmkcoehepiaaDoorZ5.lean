/-
  What is proved here: what puny's encoder does with the runes that are written as they are.
-/
import Derived.Test.YtockmkcoehepiaaDoorZ4
namespace Go.Proofs.YtockmkcoehepiaaDoor
open Go.RowKit

theorem Blk.alloc {w : World} {B : Nat} {T : TypeId} {xs : List Value} (h : Blk w B T xs) (o : Obj) : Blk (w.alloc o) B T xs := (Below.heap_alloc _ _ _ h.lt).trans h
theorem plain_snoc {l : List Int} {k : Nat} (h : k < l.length) : plainM (l.take (k + 1)) = if l.getD k 0 < 128 then plainM (l.take k) ++ [l.getD k 0] else plainM (l.take k) := by
  have e : l.take (k + 1) = l.take k ++ [l.getD k 0] := by rw [List.take_succ_eq_append_getElem h]; simp [List.getD, h]
  rw [e]
  unfold plainM
  rw [List.filter_append]
  by_cases g : l.getD k 0 < 128
  · rw [if_pos g, List.filter_cons, if_pos (by simpa using g)]; rfl
  · rw [if_neg g, List.filter_cons, if_neg (by simpa using g)]; simp
theorem plain_le (l : List Int) : (plainM l).length ≤ l.length := List.length_filter_le _ _
set_option maxRecDepth 100000 in
set_option maxHeartbeats 4000000 in
theorem plainE_any (B : Nat) (v : Value) (l : List Int) (w0 w : World) (hv : Runes w0 v l) (hb : Below w0.heap.size w0 w) (hB : w0.heap.size ≤ B) (hl : l.length ≤ 120) (hp : ∀ x ∈ l, 0 ≤ x)
    (h : Blk w B 77 [.int .i64 72, .bool false, .int .i64 0, .int .i64 0, .int .i64 0, .slice none 0 0]) :
    Calls Tryd.prog 52 #[.pointer (some ⟨B, 0, none⟩), v] w fun e w' => e = .returned (.tuple #[]) ∧ EncIs w' B (startE l) ∧ Below w0.heap.size w0 w' := by
  obtain ⟨i0, hi, hz0, hz1, hz2⟩ := info_parts Tryd.infoByte
  obtain ⟨a, cap, rfl, hv⟩ := hv
  have HV := Hid.mk' hv
  have HP : Hid (∀ k, k < l.length → 0 ≤ l.getD k 0) := fun k hk => hp _ (by rw [List.getD_eq_getElem?_getD, List.getElem?_eq_getElem hk]; exact List.getElem_mem _)
  have HN : Hid (∀ (W : World) (r : Int), _) := fun W r => notPlain_any r W
  have H0 := Hid.mk' h
  have HST : Hid (startE l = ⟨128, 0, (plainM l).length, 72, true, if (plainM l).length = 0 then plainM l else plainM l ++ [45]⟩) := rfl
  generalize startE l = S at *
  clear hv hp h
  go_enter Tryd.func52, Tryd.ntmps52
  go_wp2
  go_loopw [8] (fun x wr => ∃ (k : Nat) (vo : Value), x = .int .i64 k ∧ k ≤ l.length ∧ Hid (Blk wr B 77 [.int .i64 72, .bool false, .int .i64 0, .int .i64 0, .int .i64 0, vo] ∧ wr.ownsRow (B + 1) 5 1 vo (plainM (l.take k)).length ((plainM (l.take k)).map (Value.int .u8)) ∧ Below w0.heap.size w0 wr)) (fun x _ => l.length - (intOf x).toNat)
  case atStart => exact ⟨0, _, rfl, Nat.zero_le _, H0.out, World.ownsRow_nil _ _ _ _, hb⟩
  case round =>
    obtain ⟨k, vo, rfl, hk, HI⟩ := hrel
    clear H0
    by_cases hlt : k < l.length
    · obtain ⟨h1, h2, h3⟩ := HI.out
      obtain ⟨b, off, rfl, hc0⟩ := HV.out k hlt
      have hc := (h3.cell (p := ⟨b, off + k, none⟩) (lt_of_cell hc0)).trans hc0
      clear hc0
      have HC := Hid.mk' (HN.out wr (l.getD k 0))
      have h0k := HP.out k hlt
      have HS := Hid.mk' (plain_snoc hlt)
      have hpl : (plainM (l.take k)).length ≤ 120 := Nat.le_trans (plain_le _) (by rw [List.length_take]; omega)
      generalize l.getD k 0 = r at *
      generalize plainM (l.take k) = Q at *
      have hklz : (k : Int) < (l.length : Int) := by omega
      by_cases hr : r < 128
      · have hd : decide (128 ≤ r) = false := by simp; omega
        rw [hd] at HC
        have hB1 := h1.lt
        obtain ⟨va, vcp, rfl⟩ := own_slice h2
        have c5 := h1.cell 5 rfl
        clear hd
        go_wp2_with fail
        refine HC.out.mono ?_
        rintro e w1 ⟨rfl, rfl⟩
        go_wp2_with (at_builtin; refine wpList_append_own _ rfl _ _ 75 rfl (B + 1) 5 i0 (.int .u8 0) 1 1 Tryd.underlying75 hi hz0 hz1 hz2 rfl (by decide) _ _ _ rfl (h2.alloc _) ⟨wr.heap.size, 0, none⟩ 1 1 ([r].map (Value.int .u8)) rfl rfl (cells_new _ _ _) (ints_one _ _) (by unfold maxLen; omega) (by omega) (by simp; omega) ?_; intro v' w2 hown' hgrow _; obtain ⟨g', cap', rfl⟩ := own_some hown' (by omega); obtain ⟨cW2, fW2, hh1, hh2, hbel⟩ := blk_push (h1.alloc _) (o := 5) rfl (h2.alloc _) hown' hgrow; clear hown' hgrow)
        have HX : Hid (Blk (w2.setCell ⟨B, 5, none⟩ (.slice (some ⟨g', 0, none⟩) (Q.length + 1) cap')) B 77 [.int .i64 72, .bool false, .int .i64 0, .int .i64 0, .int .i64 0, .slice (some ⟨g', 0, none⟩) (Q.length + 1) cap'] ∧ (w2.setCell ⟨B, 5, none⟩ (.slice (some ⟨g', 0, none⟩) (Q.length + 1) cap')).ownsRow (B + 1) 5 1 (.slice (some ⟨g', 0, none⟩) (Q.length + 1) cap') (plainM (l.take (k + 1))).length ((plainM (l.take (k + 1))).map (Value.int .u8)) ∧ Below w0.heap.size w0 (w2.setCell ⟨B, 5, none⟩ (.slice (some ⟨g', 0, none⟩) (Q.length + 1) cap'))) := by
          refine ⟨hh1, ?_, (h3.alloc h3.size _).trans (hbel.mono hB)⟩
          rw [HS.out, if_pos hr]
          simpa using hh2
        clear hh1 hh2 hbel
        go_roundw
        case rel => exact ⟨k + 1, _, by go_num, by omega, HX⟩
        case measure => simp [intOf]; omega
      · have hd : decide (128 ≤ r) = true := by simp; omega
        rw [hd] at HC
        rw [if_neg hr] at HS
        have HX : Hid (Blk wr B 77 [.int .i64 72, .bool false, .int .i64 0, .int .i64 0, .int .i64 0, vo] ∧ wr.ownsRow (B + 1) 5 1 vo (plainM (l.take (k + 1))).length ((plainM (l.take (k + 1))).map (Value.int .u8)) ∧ Below w0.heap.size w0 wr) := by rw [HS.out]; exact ⟨h1, h2, h3⟩
        clear hd h1 h2 h3
        go_wp2_with fail
        refine HC.out.mono ?_
        rintro e w1 ⟨rfl, rfl⟩
        go_wp2
        go_roundw
        case rel => exact ⟨k + 1, _, by go_num, by omega, HX⟩
        case measure => simp [intOf]; omega
    · obtain rfl : k = l.length := by omega
      obtain ⟨h1, h2, h3⟩ := HI.out
      rw [List.take_length] at h2
      have hpl := plain_le l
      generalize plainM l = Q at *
      obtain ⟨va, vcp, rfl⟩ := own_slice h2
      have c5 := h1.cell 5 rfl
      have HBG := Hid.mk' (begin_any B 77 _ _ 0 0 0 _ (Q.length : Int) wr.drew h1.drew)
      have H2 := Hid.mk' h2
      have H3 := Hid.mk' h3
      have hB1 := h1.lt
      clear h1 h2 h3 HI HV HP HN
      go_wp2
      go_region_law (go_simp; go_at_call 98; refine HBG.out.mono ?_; rintro e w2 ⟨rfl, hk2, ho2⟩)
      clear c5 HBG
      have h2 := owns_on (owns_below H2.out (Below.refl _ _).drew) ho2 (Nat.lt_succ_self B)
      have h3 : Below w0.heap.size w0 w2 := H3.out.drew.trans ((ho2.below (Nat.le_of_lt hB1)).mono hB)
      have c4 := hk2.cell 4 rfl
      have c5 := hk2.cell 5 rfl
      by_cases hq : Q.length = 0
      · have hqd : decide (0 < Q.length) = false := decide_eq_false (by omega)
        have HF : Hid (EncIs w2 B S) := by
          rw [HST.out, if_pos hq]
          exact ⟨_, hk2, h2⟩
        clear hk2 h2 H2 H3 ho2 HST
        go_wp2
        go_end0
        exact ⟨rfl, HF.out, h3⟩
      · have hqd : decide (0 < Q.length) = true := decide_eq_true (by omega)
        have hB2 := hk2.lt
        clear H2 H3 ho2
        go_wp2_with (at_builtin; refine wpList_append_own _ rfl _ _ 75 rfl (B + 1) 5 i0 (.int .u8 0) 1 1 Tryd.underlying75 hi hz0 hz1 hz2 rfl (by decide) _ _ _ rfl (h2.alloc _) ⟨w2.heap.size, 0, none⟩ 1 1 ([45].map (Value.int .u8)) rfl rfl (cells_new _ _ _) (ints_one _ _) (by unfold maxLen; omega) (by omega) (by simp; omega) ?_; intro v' w3 hown' hgrow _; obtain ⟨g', cap', rfl⟩ := own_some hown' (by omega); obtain ⟨cW2, fW2, hh1, hh2, hbel⟩ := blk_push (hk2.alloc _) (o := 5) rfl (h2.alloc _) hown' hgrow; clear hown' hgrow)
        go_end0
        refine ⟨rfl, ⟨.slice (some ⟨g', 0, none⟩) (Q.length + 1) cap', ?_, ?_⟩, (h3.alloc h3.size _).trans (hbel.mono hB)⟩
        · rw [HST.out]
          exact hh1
        · rw [HST.out, if_neg hq]
          simpa using hh2
end Go.Proofs.YtockmkcoehepiaaDoor

/-
  What is proved here: what Join answers at a table.
-/
import Derived.Test.YthheplgpjhhbmaaDoorJ1
namespace Go.Proofs.YthheplgpjhhbmaaDoor
open Go.RowKit

theorem cellsOf_set (acc : List Rg) (q : Rg) (h : Int) : (cellsOf (acc ++ [q])).set (acc.length * 3 + 1) (.int .i32 h) = cellsOf (acc ++ [⟨q.lo, h, q.val⟩]) := by
  rw [cellsOf_snoc, cellsOf_snoc, List.set_append_right _ _ (by rw [cellsOf_len]; omega), cellsOf_len]
  have e : acc.length * 3 + 1 - acc.length * 3 = 1 := by omega
  rw [e]; rfl
theorem own_ge {w : World} {base : Nat} {e : TypeId} {size g n cap : Nat} {xs : List Value} (h : w.ownsRow base e size (.slice (some ⟨g, 0, none⟩) n cap) n xs) : base ≤ g ∧ g < w.heap.size := by
  have := h.lt g rfl
  exact this
set_option maxRecDepth 20000 in
set_option maxHeartbeats 2000000 in
theorem join_any (v : Value) (l : List Rg) (w : World) (hT : Tab w v l) (hl : l.length ≤ 2147483648) (hR : Tbl l) :
    Calls Tryd.prog 19 #[v] w fun e w' => ∃ v' m, e = .returned v' ∧ Tab w' v' m ∧ Joined m l ∧ Below w.heap.size w w' := by
  obtain ⟨i0, hi, hz0, hz1, hz2⟩ := info_parts Tryd.infoRange
  obtain ⟨a, cap, rfl, hT⟩ := hT
  have HT := Hid.mk' hT
  have HR := Hid.mk' hR
  clear hT hR
  go_enter Tryd.func19, Tryd.ntmps19
  go_wp2
  go_loopw [3, 9] (fun x y wr => ∃ (k : Nat) (acc : List Rg), y = .int .i64 k ∧ k ≤ l.length ∧ wr.ownsRow w.heap.size 37 3 x acc.length (cellsOf acc) ∧ acc.length ≤ k ∧ Hid (Joined acc (l.take k)) ∧ Below w.heap.size w wr) (fun _ y _ => l.length - (intOf y).toNat)
  case atStart => exact ⟨0, [], rfl, Nat.zero_le _, World.ownsRow_nil _ _ _ _, by simp, Hid.mk' joined_nil, Below.refl _ _⟩
  case round =>
    obtain ⟨k, acc, rfl, hk, hown, hak, hacc, hb⟩ := hrel
    by_cases hlt : k < l.length
    · obtain ⟨b, off, rfl, hc⟩ := HT.out k hlt
      obtain ⟨d0, d1, d2⟩ := three_of (w := wr) (b := b) (o := off + k * 3) (r := l.getD k default) (fun j hj => by rw [← hc j hj]; exact hb.cell (p := ⟨b, off + k * 3 + j, none⟩) (lt_of_cell (hc 0 (by omega))))
      clear hc
      have hsz := hb.size
      have hrm := HR.out.1 _ (getD_mem hlt)
      have HPu : Hid ((acc = [] ∨ goesOn (l.getD k default) (acc.getD (acc.length - 1) default) = false) → Joined (acc ++ [l.getD k default]) (l.take (k + 1))) := fun h => by rw [take_snoc hlt]; exact joined_push hacc.out hrm (tbl_head HR.out hlt) h
      have HGr : Hid (∀ acc' q, acc = acc' ++ [q] → goesOn (l.getD k default) q = true → Joined (acc' ++ [⟨q.lo, (l.getD k default).hi, q.val⟩]) (l.take (k + 1))) := fun acc' q e hgo => by rw [take_snoc hlt]; exact joined_grow (by rw [← e]; exact hacc.out) hrm hgo
      have HMA : Hid (∀ q ∈ acc, q.may = true) := hacc.out.tbl.1
      generalize l.getD k default = r at d0 d1 d2 HPu HGr hrm
      rcases List.eq_nil_or_concat acc with rfl | ⟨acc', q, hacc'⟩
      · obtain ⟨sa, sc, rfl⟩ : ∃ sa sc, u3 = .slice sa 0 sc := by
          rcases hown.2 with ⟨h1, -⟩ | ⟨g', cap', cu, h1, -, -⟩
          · exact ⟨_, _, h1⟩
          · exact ⟨_, _, h1⟩
        have hj := Hid.mk' (HPu.out (.inl rfl))
        clear hrm
        go_wp2
        go_region
        obtain ⟨WD, hWD⟩ : ∃ WD, (wr.alloc (.cells #[.int .i32 r.lo, .int .i32 r.hi, .int .i64 r.val] 37)).drew = WD := ⟨_, rfl⟩
        rw [hWD]
        have hoD : WD.ownsRow w.heap.size 37 3 (.slice sa 0 sc) ([] : List Rg).length (cellsOf []) := by rw [← hWD]; exact (hown.alloc _).drew
        have hbD : Below w.heap.size w WD := by rw [← hWD]; exact (hb.alloc hsz _).drew
        obtain ⟨c0, c1, c2⟩ : WD.cell? ⟨wr.heap.size, 0, none⟩ = some (.int .i32 r.lo) ∧ WD.cell? ⟨wr.heap.size, 1, none⟩ = some (.int .i32 r.hi) ∧ WD.cell? ⟨wr.heap.size, 2, none⟩ = some (.int .i64 r.val) := by rw [← hWD]; simp
        have hsD := hbD.size
        clear hWD
        go_wp2_with (at_builtin; refine wpList_append_own _ rfl _ _ 22 rfl w.heap.size 37 i0 (.agg #[.int .i32 0, .int .i32 0, .int .i64 0]) 3 16 Tryd.underlying22 hi hz0 hz1 hz2 rfl (by decide) _ _ _ rfl (hoD.alloc _) ⟨WD.heap.size, 0, none⟩ 1 1 [.int .i32 r.lo, .int .i32 r.hi, .int .i64 r.val] rfl rfl (cells_new _ _ _) (by intro u hu; simp at hu; rcases hu with rfl | rfl | rfl <;> rfl) (by unfold maxLen; omega) (by omega) (by simp; omega) ?_; intro v' w3 hown' hgrow _)
        have R1 : Below w.heap.size w w3 := (hbD.alloc hsD _).grown hgrow (by simp; omega) (fun j hj => (hoD.lt j hj).1)
        have R2 : w3.ownsRow w.heap.size 37 3 v' ([] ++ [r]).length (cellsOf ([] ++ [r])) := by rw [cellsOf_snoc]; simpa [Rg.cells] using hown'
        clear hown' hgrow hoD
        go_roundw
        case rel => exact ⟨k + 1, [] ++ [r], by go_num, by omega, R2, by simp, hj, R1⟩
        case measure => simp [intOf]; omega
      · rw [List.concat_eq_append] at hacc'
        subst hacc'
        have hlen : (acc' ++ [q]).length = acc'.length + 1 := by simp
        obtain ⟨g', cap', rfl⟩ : ∃ g' cap', u3 = .slice (some ⟨g', 0, none⟩) (acc'.length + 1) cap' := by
          rcases hown.2 with ⟨-, h1⟩ | ⟨g', cap', cu, h1, -, -⟩
          · simp at h1
          · exact ⟨g', cap', by rw [h1, hlen]⟩
        rw [hlen] at hown hak
        have hqm := HMA.out q (by simp)
        have hcells : ∀ (W : World), W.ownsRow w.heap.size 37 3 (.slice (some ⟨g', 0, none⟩) (acc'.length + 1) cap') (acc'.length + 1) (cellsOf (acc' ++ [q])) → W.cell? ⟨g', acc'.length * 3, none⟩ = some (.int .i32 q.lo) ∧ W.cell? ⟨g', acc'.length * 3 + 1, none⟩ = some (.int .i32 q.hi) ∧ W.cell? ⟨g', acc'.length * 3 + 2, none⟩ = some (.int .i64 q.val) := fun W ho => by
          refine three_of fun i hi => ?_
          rw [ho.cellAt _ (by omega), cellsOf_at _ _ _ (by simp) hi, getD_snoc_last]
        have HCE := Hid.mk' hcells
        have HF : Hid (∀ W, _) := fun W => follows_any r q W hrm hqm
        have HGO : Hid (goesOn r q = true → Joined (acc' ++ [⟨q.lo, r.hi, q.val⟩]) (l.take (k + 1))) := fun hgo => HGr.out acc' q rfl hgo
        have HPO : Hid (goesOn r q = false → Joined (acc' ++ [q] ++ [r]) (l.take (k + 1))) := fun hgo => HPu.out (.inr (by rw [hlen, Nat.add_sub_cancel, getD_snoc_last]; exact hgo))
        unfold Rg.v at HF
        clear hcells HGr HPu hrm hqm HMA
        obtain ⟨WN, hWN⟩ : ∃ WN, wr.alloc (.cells #[.int .i32 r.lo, .int .i32 r.hi, .int .i64 r.val] 37) = WN := ⟨_, rfl⟩
        have hbN : Below w.heap.size w WN := by rw [← hWN]; exact hb.alloc hsz _
        have hoN := hown.alloc (.cells #[.int .i32 r.lo, .int .i32 r.hi, .int .i64 r.val] 37)
        rw [hWN] at hoN
        obtain ⟨n0, n1, n2⟩ : WN.cell? ⟨wr.heap.size, 0, none⟩ = some (.int .i32 r.lo) ∧ WN.cell? ⟨wr.heap.size, 1, none⟩ = some (.int .i32 r.hi) ∧ WN.cell? ⟨wr.heap.size, 2, none⟩ = some (.int .i64 r.val) := by rw [← hWN]; simp
        have hNz : wr.heap.size < WN.heap.size := by rw [← hWN]; simp
        obtain ⟨q0, q1, q2⟩ := HCE.out WN hoN
        cases hgo : goesOn r q
        · rw [hgo] at HF
          have hj := Hid.mk' (HPO.out hgo)
          clear HGO HPO hgo
          go_wp2
          clear hWN
          have HWD : Hid (∀ WD, Below WN.drew.heap.size WN.drew WD → (WD.cell? ⟨wr.heap.size, 0, none⟩ = some (.int .i32 r.lo) ∧ WD.cell? ⟨wr.heap.size, 1, none⟩ = some (.int .i32 r.hi) ∧ WD.cell? ⟨wr.heap.size, 2, none⟩ = some (.int .i64 r.val)) ∧ WD.cell? ⟨g', acc'.length * 3, none⟩ = some (.int .i32 q.lo) ∧ WD.cell? ⟨g', acc'.length * 3 + 1, none⟩ = some (.int .i32 q.hi) ∧ WD.cell? ⟨g', acc'.length * 3 + 2, none⟩ = some (.int .i64 q.val)) := fun WD hb2 => by
            have hb3 : Below WN.heap.size WN WD := ((Below.refl _ WN).drew).trans hb2
            exact ⟨⟨(hb3.cell (p := ⟨wr.heap.size, 0, none⟩) hNz).trans n0, (hb3.cell (p := ⟨wr.heap.size, 1, none⟩) hNz).trans n1, (hb3.cell (p := ⟨wr.heap.size, 2, none⟩) hNz).trans n2⟩, HCE.out WD (owns_below hoN hb3)⟩
          generalize hN : acc'.length + 1 = N at *
          have hnN : acc'.length < N := by omega
          go_region_held3 (fun w' => (w'.cell? ⟨wr.heap.size, 0, none⟩ = some (.int .i32 r.lo) ∧ w'.cell? ⟨wr.heap.size, 1, none⟩ = some (.int .i32 r.hi) ∧ w'.cell? ⟨wr.heap.size, 2, none⟩ = some (.int .i64 r.val)) ∧ w'.cell? ⟨g', acc'.length * 3, none⟩ = some (.int .i32 q.lo) ∧ w'.cell? ⟨g', acc'.length * 3 + 1, none⟩ = some (.int .i32 q.hi) ∧ w'.cell? ⟨g', acc'.length * 3 + 2, none⟩ = some (.int .i64 q.val)) (first | exact ⟨⟨n0, n1, n2⟩, q0, q1, q2⟩ | exact HWD.out _ hb2 | go_keep) ((go_at_call 30; refine (HF.out _).mono ?_; rintro e WD ⟨rfl, hb2⟩))
          subst hN
          have hb3 : Below WN.heap.size WN WD := ((Below.refl _ WN).drew).trans hb2
          have hbD := hbN.trans (hb3.mono hbN.size)
          have hoD := owns_below hoN hb3
          have c0 := (hb3.cell (p := ⟨wr.heap.size, 0, none⟩) hNz).trans n0
          have c1 := (hb3.cell (p := ⟨wr.heap.size, 1, none⟩) hNz).trans n1
          have c2 := (hb3.cell (p := ⟨wr.heap.size, 2, none⟩) hNz).trans n2
          have hsD := hbD.size
          obtain ⟨p0, p1, p2⟩ := HCE.out WD hoD
          clear n0 n1 n2 q0 q1 q2 hoN hown hb2
          go_wp2_with (at_builtin; refine wpList_append_own _ rfl _ _ 22 rfl w.heap.size 37 i0 (.agg #[.int .i32 0, .int .i32 0, .int .i64 0]) 3 16 Tryd.underlying22 hi hz0 hz1 hz2 rfl (by decide) _ _ _ rfl (hoD.alloc _) ⟨WD.heap.size, 0, none⟩ 1 1 [.int .i32 r.lo, .int .i32 r.hi, .int .i64 r.val] rfl rfl (cells_new _ _ _) (by intro u hu; simp at hu; rcases hu with rfl | rfl | rfl <;> rfl) (by unfold maxLen; omega) (by omega) (by simp; omega) ?_; intro v' w3 hown' hgrow _)
          have R1 : Below w.heap.size w w3 := (hbD.alloc hsD _).grown hgrow (by simp; omega) (fun j hj => (hoD.lt j hj).1)
          have R2 : w3.ownsRow w.heap.size 37 3 v' (acc' ++ [q] ++ [r]).length (cellsOf (acc' ++ [q] ++ [r])) := by rw [cellsOf_snoc _ r]; simpa [Rg.cells] using hown'
          clear hown' hgrow hoD
          go_roundw
          case rel => exact ⟨k + 1, acc' ++ [q] ++ [r], by go_num, by omega, R2, by simp; omega, hj, R1⟩
          case measure => simp [intOf]; omega
        · rw [hgo] at HF
          have hj := Hid.mk' (HGO.out hgo)
          clear HGO HPO hgo
          go_wp2
          clear hWN
          have HWD : Hid (∀ WD, Below WN.drew.heap.size WN.drew WD → (WD.cell? ⟨wr.heap.size, 0, none⟩ = some (.int .i32 r.lo) ∧ WD.cell? ⟨wr.heap.size, 1, none⟩ = some (.int .i32 r.hi) ∧ WD.cell? ⟨wr.heap.size, 2, none⟩ = some (.int .i64 r.val)) ∧ WD.cell? ⟨g', acc'.length * 3, none⟩ = some (.int .i32 q.lo) ∧ WD.cell? ⟨g', acc'.length * 3 + 1, none⟩ = some (.int .i32 q.hi) ∧ WD.cell? ⟨g', acc'.length * 3 + 2, none⟩ = some (.int .i64 q.val)) := fun WD hb2 => by
            have hb3 : Below WN.heap.size WN WD := ((Below.refl _ WN).drew).trans hb2
            exact ⟨⟨(hb3.cell (p := ⟨wr.heap.size, 0, none⟩) hNz).trans n0, (hb3.cell (p := ⟨wr.heap.size, 1, none⟩) hNz).trans n1, (hb3.cell (p := ⟨wr.heap.size, 2, none⟩) hNz).trans n2⟩, HCE.out WD (owns_below hoN hb3)⟩
          generalize hN : acc'.length + 1 = N at *
          have hnN : acc'.length < N := by omega
          go_region_held3 (fun w' => (w'.cell? ⟨wr.heap.size, 0, none⟩ = some (.int .i32 r.lo) ∧ w'.cell? ⟨wr.heap.size, 1, none⟩ = some (.int .i32 r.hi) ∧ w'.cell? ⟨wr.heap.size, 2, none⟩ = some (.int .i64 r.val)) ∧ w'.cell? ⟨g', acc'.length * 3, none⟩ = some (.int .i32 q.lo) ∧ w'.cell? ⟨g', acc'.length * 3 + 1, none⟩ = some (.int .i32 q.hi) ∧ w'.cell? ⟨g', acc'.length * 3 + 2, none⟩ = some (.int .i64 q.val)) (first | exact ⟨⟨n0, n1, n2⟩, q0, q1, q2⟩ | exact HWD.out _ hb2 | go_keep) ((go_at_call 30; refine (HF.out _).mono ?_; rintro e WD ⟨rfl, hb2⟩))
          subst hN
          have hb3 : Below WN.heap.size WN WD := ((Below.refl _ WN).drew).trans hb2
          have hbD := hbN.trans (hb3.mono hbN.size)
          have hoD := owns_below hoN hb3
          have c0 := (hb3.cell (p := ⟨wr.heap.size, 0, none⟩) hNz).trans n0
          have c1 := (hb3.cell (p := ⟨wr.heap.size, 1, none⟩) hNz).trans n1
          have c2 := (hb3.cell (p := ⟨wr.heap.size, 2, none⟩) hNz).trans n2
          have hsD := hbD.size
          obtain ⟨p0, p1, p2⟩ := HCE.out WD hoD
          clear n0 n1 n2 q0 q1 q2 hoN hown hb2
          have hfr := hoD.frozenAt (acc'.length * 3 + 1)
          have hst := hoD.stored (acc'.length * 3 + 1) (.int .i32 r.hi)
          rw [cellsOf_set] at hst
          have hst1 := Hid.mk' hst.1
          have hbS : Below w.heap.size w (WD.setCell ⟨g', acc'.length * 3 + 1, none⟩ (.int .i32 r.hi)) := hbD.setCell (p := ⟨g', acc'.length * 3 + 1, none⟩) (own_ge hoD).1 _
          clear hst hoD
          go_wp2
          go_roundw
          case rel => exact ⟨k + 1, acc' ++ [⟨q.lo, r.hi, q.val⟩], by go_num, by omega, by have := hst1.out; simpa using this, by simp; omega, hj, hbS⟩
          case measure => simp [intOf]; omega
    · obtain rfl : k = l.length := by omega
      have hT2 := Hid.mk' (Tab.own hown)
      have hJ : Hid (Joined acc l) := by have := hacc.out; rw [List.take_length] at this; exact this
      rcases hown.2 with ⟨rfl, h0⟩ | ⟨g', cap', cu, rfl, -, -⟩
      all_goals
        go_wp2
        go_ret
        exact ⟨_, acc, rfl, hT2.out, hJ.out, hb⟩
end Go.Proofs.YthheplgpjhhbmaaDoor

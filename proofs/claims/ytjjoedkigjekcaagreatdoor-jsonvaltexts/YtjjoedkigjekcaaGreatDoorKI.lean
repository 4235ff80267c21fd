/-
  What is proved here: what jsonval.copied, List, Obj and Get answer.
-/
import Derived.Test.YtjjoedkigjekcaaGreatDoorMG
namespace Go.Proofs.YtjjoedkigjekcaaGreatDoor
open Go.RowKit

theorem Blk.agree {W W' : World} {B g : Nat} {T : TypeId} {xs : List Value} (h : Blk W g T xs) (hg : B ≤ g) (hA : Agree B W W') : Blk W' g T xs := (hA g hg h.lt).trans h
/-- a value out of its parts -/
theorem va_parts {B : Nat} {W : World} {k : Int} {s : List UInt8} {l : List J} {m : List (List UInt8 × J)} {v1 v2 : Value} (h1 : ∀ W', Agree B W W' → SL W' v1 l) (h2 : ∀ W', Agree B W W' → SM W' v2 m) :
    ∃ cs, cs = [Value.int .i64 k, .string (strL s), v1, v2] ∧ VA B W (.mk k s l m) cs := by
  refine ⟨_, rfl, fun W' hA => ?_⟩
  obtain ⟨a, ca, rfl, h1'⟩ := h1 W' hA
  obtain ⟨b, cb, rfl, h2'⟩ := h2 W' hA
  exact (VJ_mk ..).2 ⟨a, ca, b, cb, rfl, h1', h2'⟩
set_option maxRecDepth 20000 in
set_option maxHeartbeats 8000000 in
theorem copied_any : ∀ t : J, weight t ≤ 4000 → CopAt t := by
  refine J.ind ?_
  intro k s l m ihl ihm hwt cs w hv
  obtain ⟨a, ca, b, cb, rfl, hL, hM⟩ := (VJ_mk ..).1 hv
  obtain ⟨hs1, hs2, hs3, hs4, hs5⟩ := weight_parts hwt
  obtain ⟨W0, hW0, hsz, hb0, hk0, hk1⟩ : ∃ W0, (w.alloc (.cells #[.int .i64 k, .string (strL s), .slice a l.length ca, .slice b m.length cb] 25)).alloc (.cells #[.int .i64 0, .string ⟨#[]⟩, .slice none 0 0, .slice none 0 0] 25) = W0 ∧ W0.heap.size = w.heap.size + 2 ∧ Below w.heap.size w W0 ∧ Blk W0 w.heap.size 25 [.int .i64 k, .string (strL s), .slice a l.length ca, .slice b m.length cb] ∧ Blk W0 (w.heap.size + 1) 25 [.int .i64 0, .string ⟨#[]⟩, .slice none 0 0, .slice none 0 0] := by
    refine ⟨_, rfl, by simp, ((Below.refl _ w).alloc (Nat.le_refl _) _).alloc (by simp) _, ?_, ?_⟩
    · exact (Blk.new w _ _).below ((Below.refl _ _).alloc (Nat.le_refl _) _)
    · have h := Blk.new (w.alloc (.cells #[.int .i64 k, .string (strL s), .slice a l.length ca, .slice b m.length cb] 25)) 25 [.int .i64 0, .string ⟨#[]⟩, .slice none 0 0, .slice none 0 0]
      rw [World.size_alloc] at h
      exact h
  have HL := Hid.mk' (copiedList_of l (fun t ht => ihl t ht (hs4 t ht)) (by omega) a ca W0 (fun j t hj => by
    obtain ⟨ba, oa, ds, h1, h2, h3⟩ := hL j t hj
    exact ⟨ba, oa, ds, h1, h2.below hb0, h3.below hb0⟩))
  have HM : Hid (∀ W, Below w.heap.size w W → Calls Tryz.prog 49 #[.slice b m.length cb] W fun e w' => ∃ v', e = .returned v' ∧ (∀ W', Agree W.heap.size w' W' → SM W' v' m) ∧ Below W.heap.size W w') := fun W hb =>
    copiedMembers_of m (fun x hx => ihm x hx (by have := hs5 x hx; omega)) (by omega) b cb W (MemAt.below hM hb)
  have HP : Hid (∀ (W : World) (v1 v2 : Value), (∀ W', Agree w.heap.size W W' → SL W' v1 l) → (∀ W', Agree w.heap.size W W' → SM W' v2 m) → ∃ cs, cs = [Value.int .i64 k, .string (strL s), v1, v2] ∧ VA w.heap.size W (.mk k s l m) cs) := fun W v1 v2 h1 h2 => va_parts h1 h2
  have c2 := hk0.cell 2 rfl
  have hk0' := Hid.mk' hk0
  have hk1' := Hid.mk' hk1
  have HSL : Hid (∀ (W : World) (v : Value), SL W v l → ∃ p c, v = .slice p l.length c) := fun W v ⟨p, c, e, _⟩ => ⟨p, c, e⟩
  have HSM : Hid (∀ (W : World) (v : Value), SM W v m → ∃ p c, v = .slice p m.length c) := fun W v ⟨p, c, e, _⟩ => ⟨p, c, e⟩
  have HSLt : Hid (∀ (W0 W W' : World) (v : Value), (∀ W', Agree W0.heap.size W W' → SL W' v l) → Agree W0.heap.size W W' → SL W' v l) := fun W0 W W' v h h' => h W' h'
  clear ihl ihm hL hM hv hwt hs1 hs2 hs3 hs4 hs5 hk0 hk1
  generalize strL s = S at *
  go_enter Tryz.func43, Tryz.ntmps43
  go_wp2_with fail
  refine HL.out.mono ?_
  rintro e w1 ⟨v1, rfl, hs1, hb1⟩
  obtain ⟨p1, q1, rfl⟩ := HSL.out _ _ (hs1 w1 (Agree.refl _ _))
  have k0 := hk0'.out.below hb1
  have k1 := hk1'.out.below hb1
  have d2 := k0.cell 2 rfl
  have d3 := k0.cell 3 rfl
  have f2 := k0.free 2
  have hbw1 := hb0.trans (hb1.mono hb0.size)
  have k0s := k0.set 2 (.slice p1 l.length q1)
  have k1s : Blk (w1.setCell ⟨w.heap.size, 2, none⟩ (.slice p1 l.length q1)) (w.heap.size + 1) 25 [.int .i64 0, .string ⟨#[]⟩, .slice none 0 0, .slice none 0 0] := k1.agree (B := w.heap.size + 1) (Nat.le_refl _) (Agree.store w1 w.heap.size 2 _ (by omega))
  have hbs := hbw1.setCell (p := ⟨w.heap.size, 2, none⟩) (Nat.le_refl _) (.slice p1 l.length q1)
  have hag1 : Agree W0.heap.size w1 (w1.setCell ⟨w.heap.size, 2, none⟩ (.slice p1 l.length q1)) := Agree.store w1 w.heap.size 2 _ (by omega)
  have hss1 : w1.heap.size ≤ (w1.setCell ⟨w.heap.size, 2, none⟩ (.slice p1 l.length q1)).heap.size := by simp
  have HM1 := Hid.mk' (HM.out _ hbs)
  have e3 := k0s.cell 3 rfl
  obtain ⟨W2, hW2⟩ : ∃ W2, w1.setCell ⟨w.heap.size, 2, none⟩ (.slice p1 l.length q1) = W2 := ⟨_, rfl⟩
  rw [hW2] at k0s k1s hbs hag1 hss1 HM1 e3
  have K0 := Hid.mk' k0s
  have K1 := Hid.mk' k1s
  have HS1 := Hid.mk' hs1
  have HA1 := Hid.mk' hag1
  have hsz1 := hb1.size
  clear HL HM hk0' hk1' k0 k1 k0s k1s hs1 hag1 hb1 c2 hbw1 d3
  go_wp2_with fail
  refine HM1.out.mono ?_
  rintro e w3 ⟨v2, rfl, hs2, hb3⟩
  obtain ⟨p2, q2, rfl⟩ := HSM.out _ _ (hs2 w3 (Agree.refl _ _))
  have k0 := K0.out.below hb3
  have k1 := K1.out.below hb3
  have d3 := k0.cell 3 rfl
  have f3 := k0.free 3
  have hbw3 := hbs.trans (hb3.mono hbs.size)
  have k0s := k0.set 3 (.slice p2 m.length q2)
  have k1s : Blk (w3.setCell ⟨w.heap.size, 3, none⟩ (.slice p2 m.length q2)) (w.heap.size + 1) 25 [.int .i64 0, .string ⟨#[]⟩, .slice none 0 0, .slice none 0 0] := k1.agree (B := w.heap.size + 1) (Nat.le_refl _) (Agree.store w3 w.heap.size 3 _ (by omega))
  have hb4 := hbw3.setCell (p := ⟨w.heap.size, 3, none⟩) (Nat.le_refl _) (.slice p2 m.length q2)
  have hag4 : ∀ B, w.heap.size < B → Agree B w3 (w3.setCell ⟨w.heap.size, 3, none⟩ (.slice p2 m.length q2)) := fun B h => Agree.store w3 w.heap.size 3 _ h
  have hss4 : w3.heap.size ≤ (w3.setCell ⟨w.heap.size, 3, none⟩ (.slice p2 m.length q2)).heap.size := by simp
  obtain ⟨W4, hW4⟩ : ∃ W4, (w3.setCell ⟨w.heap.size, 3, none⟩ (.slice p2 m.length q2)) = W4 := ⟨_, rfl⟩
  rw [hW4] at k0s k1s hb4 hag4 hss4
  have c0 := k0s.cell 0 rfl
  have c1 := k0s.cell 1 rfl
  have c2 := k0s.cell 2 rfl
  have c3 := k0s.cell 3 rfl
  have r0 := k1s.cell 0 rfl
  have r1 := k1s.cell 1 rfl
  have r2 := k1s.cell 2 rfl
  have r3 := k1s.cell 3 rfl
  have g0 := k1s.free 0
  have g1 := k1s.free 1
  have g2 := k1s.free 2
  have g3 := k1s.free 3
  have hk5 := (((k1s.set 0 (.int .i64 k)).set 1 (.string S)).set 2 (.slice p1 l.length q1)).set 3 (.slice p2 m.length q2)
  have hb5 := (((hb4.setCell (p := ⟨w.heap.size + 1, 0, none⟩) (Nat.le_succ _) (.int .i64 k)).setCell (p := ⟨w.heap.size + 1, 1, none⟩) (Nat.le_succ _) (.string S)).setCell (p := ⟨w.heap.size + 1, 2, none⟩) (Nat.le_succ _) (.slice p1 l.length q1)).setCell (p := ⟨w.heap.size + 1, 3, none⟩) (Nat.le_succ _) (.slice p2 m.length q2)
  have hag5 : ∀ B, w.heap.size + 1 < B → Agree B W4 ((((W4.setCell ⟨w.heap.size + 1, 0, none⟩ (.int .i64 k)).setCell ⟨w.heap.size + 1, 1, none⟩ (.string S)).setCell ⟨w.heap.size + 1, 2, none⟩ (.slice p1 l.length q1)).setCell ⟨w.heap.size + 1, 3, none⟩ (.slice p2 m.length q2)) := fun B h =>
    (((Agree.store W4 (w.heap.size + 1) 0 _ h).trans (by simp) (Agree.store _ (w.heap.size + 1) 1 _ h)).trans (by simp) (Agree.store _ (w.heap.size + 1) 2 _ h)).trans (by simp) (Agree.store _ (w.heap.size + 1) 3 _ h)
  have hss5 : W4.heap.size ≤ ((((W4.setCell ⟨w.heap.size + 1, 0, none⟩ (.int .i64 k)).setCell ⟨w.heap.size + 1, 1, none⟩ (.string S)).setCell ⟨w.heap.size + 1, 2, none⟩ (.slice p1 l.length q1)).setCell ⟨w.heap.size + 1, 3, none⟩ (.slice p2 m.length q2)).heap.size := by simp
  have hva : ∃ cs, cs = [Value.int .i64 k, .string S, .slice p1 l.length q1, .slice p2 m.length q2] ∧ VA w.heap.size ((((W4.setCell ⟨w.heap.size + 1, 0, none⟩ (.int .i64 k)).setCell ⟨w.heap.size + 1, 1, none⟩ (.string S)).setCell ⟨w.heap.size + 1, 2, none⟩ (.slice p1 l.length q1)).setCell ⟨w.heap.size + 1, 3, none⟩ (.slice p2 m.length q2)) (.mk k s l m) cs := by
    refine HP.out _ _ _ (fun W' hA => ?_) (fun W' hA => ?_)
    · have h3 := hb3.size
      exact HS1.out W' ((((HA1.out.trans hss1 (Agree.below hb3)).trans (by omega) (hag4 _ (by omega))).trans (by omega) (hag5 _ (by omega))).trans (by omega) (hA.base (by omega)))
    · have h3 := hb3.size
      have h2 := hbs.size
      exact hs2 W' (((hag4 _ (by omega)).trans (by omega) (hag5 _ (by omega))).trans (by omega) (hA.base (by omega)))
  obtain ⟨cs, rfl, hva⟩ := hva
  have HK5 := Hid.mk' hk5
  have HB5 := Hid.mk' hb5
  have HVA := Hid.mk' hva
  clear HM1 K0 K1 HS1 HA1 HP HSL HSM HSLt hs2 hb3 k0 k1 k0s k1s hbw3 hag4 hag5 hss4 hss5 hk5 hb5 hva hbs hb4 e3 d2 f2
  go_wp2
  exact ret_value Tryz.results43 (w.heap.size + 1) _ _ _ _ rfl HK5.out rfl ⟨_, rfl, HVA.out, HB5.out⟩
set_option maxRecDepth 20000 in
set_option maxHeartbeats 2000000 in
theorem list12_any (l : List J) (hl : l.length ≤ 100000) (hw : ∀ t ∈ l, weight t ≤ 4000) (v : Value) (w : World) (h : SL w v l) :
    Calls Tryz.prog 28 #[v] w fun e w' => (∃ cs, e = .returned (.agg cs.toArray) ∧ VJ w' (.mk 5 [] l []) cs) ∧ Below w.heap.size w w' := by
  obtain ⟨a, ca, rfl, hL⟩ := h
  have hb0 : Below w.heap.size w (w.alloc (.cells #[.int .i64 0, .string ⟨#[]⟩, .slice none 0 0, .slice none 0 0] 25)) := (Below.refl _ w).alloc (Nat.le_refl _) _
  have hbk : Blk (w.alloc (.cells #[.int .i64 0, .string ⟨#[]⟩, .slice none 0 0, .slice none 0 0] 25)) w.heap.size 25 [.int .i64 0, .string ⟨#[]⟩, .slice none 0 0, .slice none 0 0] := Blk.new _ _ _
  have HC := Hid.mk' (copiedList_of l (fun t ht => copied_any t (hw t ht)) hl a ca (w.alloc (.cells #[.int .i64 0, .string ⟨#[]⟩, .slice none 0 0, .slice none 0 0] 25)) (fun j t hj => by
    obtain ⟨ba, oa, ds, h1, h2, h3⟩ := hL j t hj
    exact ⟨ba, oa, ds, h1, h2.below hb0, h3.below hb0⟩))
  have HF : Hid (∀ W, Below (w.alloc (.cells #[.int .i64 0, .string ⟨#[]⟩, .slice none 0 0, .slice none 0 0] 25)).heap.size (w.alloc (.cells #[.int .i64 0, .string ⟨#[]⟩, .slice none 0 0, .slice none 0 0] 25)) W → Blk W w.heap.size 25 [.int .i64 0, .string ⟨#[]⟩, .slice none 0 0, .slice none 0 0] ∧ Below w.heap.size w W) := fun W hb => ⟨hbk.below hb, hb0.trans (hb.mono hb0.size)⟩
  clear hL hw hbk hb0
  go_enter Tryz.func28, Tryz.ntmps28
  go_wp2_with fail
  refine HC.out.mono ?_
  rintro e w1 ⟨v1, rfl, hs, hb1⟩
  obtain ⟨hk, hfin⟩ := HF.out _ hb1
  obtain ⟨p, q, rfl, -⟩ := hs w1 (Agree.refl _ _)
  have c0 := hk.cell 0 rfl
  have c1 := hk.cell 1 rfl
  have c2 := hk.cell 2 rfl
  have c3 := hk.cell 3 rfl
  have f0 := hk.free 0
  have f1 := hk.free 1
  have f2 := hk.free 2
  have f3 := hk.free 3
  have hk4 := (((hk.set 0 (.int .i64 5)).set 1 (.string ⟨#[]⟩)).set 2 (.slice p l.length q)).set 3 (.slice none 0 0)
  have hb4 := (((hfin.setCell (p := ⟨w.heap.size, 0, none⟩) (Nat.le_refl _) (.int .i64 5)).setCell (p := ⟨w.heap.size, 1, none⟩) (Nat.le_refl _) (.string ⟨#[]⟩)).setCell (p := ⟨w.heap.size, 2, none⟩) (Nat.le_refl _) (.slice p l.length q)).setCell (p := ⟨w.heap.size, 3, none⟩) (Nat.le_refl _) (.slice none 0 0)
  have hs' := hs ((((w1.setCell ⟨w.heap.size, 0, none⟩ (.int .i64 5)).setCell ⟨w.heap.size, 1, none⟩ (.string ⟨#[]⟩)).setCell ⟨w.heap.size, 2, none⟩ (.slice p l.length q)).setCell ⟨w.heap.size, 3, none⟩ (.slice none 0 0))
    ((((Agree.store w1 w.heap.size 0 _ (by simp)).trans (by simp) (Agree.store _ w.heap.size 1 _ (by simp))).trans (by simp) (Agree.store _ w.heap.size 2 _ (by simp))).trans (by simp) (Agree.store _ w.heap.size 3 _ (by simp)))
  obtain ⟨p', q', e', hs''⟩ := hs'
  injection e' with e1 e2 e3
  subst e1 e3
  have HS := Hid.mk' hs''
  clear HC HF hb1 hs hs'' hk hfin
  go_wp2
  exact ret_value Tryz.results28 w.heap.size _ _ _ _ rfl hk4 rfl ⟨⟨_, rfl, (VJ_mk ..).2 ⟨p, q, none, 0, rfl, HS.out, fun j x h => by simp at h⟩⟩, hb4⟩
set_option maxRecDepth 20000 in
set_option maxHeartbeats 2000000 in
theorem obj12_any (m : List (List UInt8 × J)) (hl : m.length ≤ 100000) (hw : ∀ x ∈ m, weight x.2 ≤ 4000) (v : Value) (w : World) (h : SM w v m) :
    Calls Tryz.prog 29 #[v] w fun e w' => (∃ cs, e = .returned (.agg cs.toArray) ∧ VJ w' (.mk 6 [] [] m) cs) ∧ Below w.heap.size w w' := by
  obtain ⟨a, ca, rfl, hM⟩ := h
  have hb0 : Below w.heap.size w (w.alloc (.cells #[.int .i64 0, .string ⟨#[]⟩, .slice none 0 0, .slice none 0 0] 25)) := (Below.refl _ w).alloc (Nat.le_refl _) _
  have hbk : Blk (w.alloc (.cells #[.int .i64 0, .string ⟨#[]⟩, .slice none 0 0, .slice none 0 0] 25)) w.heap.size 25 [.int .i64 0, .string ⟨#[]⟩, .slice none 0 0, .slice none 0 0] := Blk.new _ _ _
  have HC := Hid.mk' (copiedMembers_of m (fun t ht => copied_any t.2 (hw t ht)) hl a ca (w.alloc (.cells #[.int .i64 0, .string ⟨#[]⟩, .slice none 0 0, .slice none 0 0] 25)) (MemAt.below hM hb0))
  have HF : Hid (∀ W, Below (w.alloc (.cells #[.int .i64 0, .string ⟨#[]⟩, .slice none 0 0, .slice none 0 0] 25)).heap.size (w.alloc (.cells #[.int .i64 0, .string ⟨#[]⟩, .slice none 0 0, .slice none 0 0] 25)) W → Blk W w.heap.size 25 [.int .i64 0, .string ⟨#[]⟩, .slice none 0 0, .slice none 0 0] ∧ Below w.heap.size w W) := fun W hb => ⟨hbk.below hb, hb0.trans (hb.mono hb0.size)⟩
  clear hM hw hbk hb0
  go_enter Tryz.func29, Tryz.ntmps29
  go_wp2_with fail
  refine HC.out.mono ?_
  rintro e w1 ⟨v1, rfl, hs, hb1⟩
  obtain ⟨hk, hfin⟩ := HF.out _ hb1
  obtain ⟨p, q, rfl, -⟩ := hs w1 (Agree.refl _ _)
  have c0 := hk.cell 0 rfl
  have c1 := hk.cell 1 rfl
  have c2 := hk.cell 2 rfl
  have c3 := hk.cell 3 rfl
  have f0 := hk.free 0
  have f1 := hk.free 1
  have f2 := hk.free 2
  have f3 := hk.free 3
  have hk4 := (((hk.set 0 (.int .i64 6)).set 1 (.string ⟨#[]⟩)).set 2 (.slice none 0 0)).set 3 (.slice p m.length q)
  have hb4 := (((hfin.setCell (p := ⟨w.heap.size, 0, none⟩) (Nat.le_refl _) (.int .i64 6)).setCell (p := ⟨w.heap.size, 1, none⟩) (Nat.le_refl _) (.string ⟨#[]⟩)).setCell (p := ⟨w.heap.size, 2, none⟩) (Nat.le_refl _) (.slice none 0 0)).setCell (p := ⟨w.heap.size, 3, none⟩) (Nat.le_refl _) (.slice p m.length q)
  have hs' := hs ((((w1.setCell ⟨w.heap.size, 0, none⟩ (.int .i64 6)).setCell ⟨w.heap.size, 1, none⟩ (.string ⟨#[]⟩)).setCell ⟨w.heap.size, 2, none⟩ (.slice none 0 0)).setCell ⟨w.heap.size, 3, none⟩ (.slice p m.length q))
    ((((Agree.store w1 w.heap.size 0 _ (by simp)).trans (by simp) (Agree.store _ w.heap.size 1 _ (by simp))).trans (by simp) (Agree.store _ w.heap.size 2 _ (by simp))).trans (by simp) (Agree.store _ w.heap.size 3 _ (by simp)))
  obtain ⟨p', q', e', hs''⟩ := hs'
  injection e' with e1 e2 e3
  subst e1 e3
  have HS := Hid.mk' hs''
  clear HC HF hb1 hs hs'' hk hfin
  go_wp2
  exact ret_value Tryz.results29 w.heap.size _ _ _ _ rfl hk4 rfl ⟨⟨_, rfl, (VJ_mk ..).2 ⟨none, 0, p, q, rfl, fun j x h => by simp at h, HS.out⟩⟩, hb4⟩
end Go.Proofs.YtjjoedkigjekcaaGreatDoor

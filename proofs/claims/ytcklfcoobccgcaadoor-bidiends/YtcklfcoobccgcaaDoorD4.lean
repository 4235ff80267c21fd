/-
  What is proved here: what bidi's Right, Broken and Label answer.
-/
import Derived.Test.YtcklfcoobccgcaaDoorD3
import Derived.Test.YtcklfcoobccgcaaDoorA9
namespace Go.Proofs.YtcklfcoobccgcaaDoor
open Go.RowKit Go.Shelf

/-- where the end is wrong, -1 where it isn't -/
def wrongM (f : Int → Bool) (ds : List Int) : Int := if f (ds.getD (endM ds) 0) = true then -1 else (endM ds : Int)
theorem wrongM_t {f : Int → Bool} {ds : List Int} (h : f (ds.getD (endM ds) 0) = true) : wrongM f ds = -1 := by unfold wrongM; rw [if_pos h]
theorem wrongM_f {f : Int → Bool} {ds : List Int} (h : f (ds.getD (endM ds) 0) = false) : wrongM f ds = (endM ds : Int) := by unfold wrongM; rw [if_neg (by rw [h]; decide)]
theorem brk_way1 {ds : List Int} (h : startM ds = 1) : brkM ds = (1, 0) := by
  unfold startM at h
  split at h
  · exact brk_empty ‹_›
  · split at h
    · exact brk_start ‹_› ‹_›
    · split at h <;> exact absurd h (by decide)
theorem start_ways (ds : List Int) : startM ds = 1 ∨ (startM ds = 2 ∧ ds.length ≠ 0 ∧ ¬ 3 < ds.getD 0 0 ∧ 1 < ds.getD 0 0) ∨ (startM ds = 5 ∧ ds.length ≠ 0 ∧ ¬ 3 < ds.getD 0 0 ∧ ¬ 1 < ds.getD 0 0) := by
  unfold startM
  split
  · exact .inl rfl
  · split
    · exact .inl rfl
    · split
      · exact .inr (.inl ⟨rfl, ‹_›, ‹_›, ‹_›⟩)
      · exact .inr (.inr ⟨rfl, ‹_›, ‹_›, ‹_›⟩)
theorem brk_way2 {ds : List Int} (hd : Dirs ds) (h0 : ds.length ≠ 0) (h3 : ¬ 3 < ds.getD 0 0) (h1 : 1 < ds.getD 0 0) :
    brkM ds = if 0 ≤ idxN ds.length (fun i => isL (ds.getD i 0)) then (2, idxN ds.length (fun i => isL (ds.getD i 0))) else if 0 ≤ wrongM (fun d => decide (2 ≤ d ∧ d ≤ 5)) ds then (3, wrongM (fun d => decide (2 ≤ d ∧ d ≤ 5)) ds) else if 0 ≤ idxN ds.length (bothB ds) then (4, idxN ds.length (bothB ds)) else (0, 0) := by
  rcases idxN_cases ds.length (fun i => isL (ds.getD i 0)) with ⟨e, q⟩ | ⟨k, hk, e, q1, q2⟩
  · rw [e, if_neg (by decide)]
    have hz := hd (endM ds) (endF_lt (by omega))
    have hz1 := q (endM ds) (endF_lt (by omega))
    have hz2 : ds.getD (endM ds) 0 ≠ 1 := by unfold isL at hz1; simpa using hz1
    by_cases h5 : 5 < ds.getD (endM ds) 0
    · rw [brk_3 h0 h3 h1 q h5, wrongM_f (f := fun d => decide (2 ≤ d ∧ d ≤ 5)) (decide_eq_false (by omega)), if_pos (by omega)]
    · rw [wrongM_t (f := fun d => decide (2 ≤ d ∧ d ≤ 5)) (decide_eq_true (by omega)), if_neg (by decide)]
      rcases idxN_cases ds.length (bothB ds) with ⟨e2, r⟩ | ⟨k, hk, e2, r1, r2⟩
      · rw [brk_right h0 h3 h1 q h5 r, e2, if_neg (by decide)]
      · rw [brk_4 h0 h3 h1 q h5 hk r2 r1, e2, if_pos (by omega)]
  · rw [brk_2 h0 h3 h1 hk q2 q1, e, if_pos (by omega)]
theorem brk_way5 {ds : List Int} (h0 : ds.length ≠ 0) (h3 : ¬ 3 < ds.getD 0 0) (h1 : ¬ 1 < ds.getD 0 0) :
    brkM ds = if 0 ≤ idxN ds.length (fun i => isR (ds.getD i 0)) then (5, idxN ds.length (fun i => isR (ds.getD i 0))) else if 0 ≤ wrongM (fun d => decide (d = 1 ∨ d = 4)) ds then (6, wrongM (fun d => decide (d = 1 ∨ d = 4)) ds) else (0, 0) := by
  rcases idxN_cases ds.length (fun i => isR (ds.getD i 0)) with ⟨e, q⟩ | ⟨k, hk, e, q1, q2⟩
  · rw [e, if_neg (by decide)]
    by_cases hz : ds.getD (endM ds) 0 ≠ 1 ∧ ds.getD (endM ds) 0 ≠ 4
    · rw [brk_6 h0 h3 h1 q hz, wrongM_f (f := fun d => decide (d = 1 ∨ d = 4)) (decide_eq_false (by omega)), if_pos (by omega)]
    · rw [brk_left h0 h3 h1 q hz, wrongM_t (f := fun d => decide (d = 1 ∨ d = 4)) (decide_eq_true (by omega)), if_neg (by decide)]
  · rw [brk_5 h0 h3 h1 hk q2 q1, e, if_pos (by omega)]
theorem ret_two9 {a b : Int × Int} (h : a = b) : Ending.returned (.tuple #[.int .i64 b.1, .int .i64 b.2]) = .returned (.tuple #[.int .i64 a.1, .int .i64 a.2]) := by rw [h]
/-- what is asked of properties and of a list of runes -/
structure Asked (w : World) (a : Nat → Option Addr) (c : Nat → Nat) (t : Nat → List Rg) (va : Option Addr) (vcap : Nat) (l : List Int) : Prop where
  tab : Tab w (.slice (a 9) (t 9).length (c 9)) (t 9)
  ok : Ok (t 9)
  runes : Runes w (.slice va l.length vcap) l
  len : l.length ≤ 1000000
  dirs : Dirs (dirsM (t 9) l)
theorem Asked.below {w w' : World} {a : Nat → Option Addr} {c : Nat → Nat} {t : Nat → List Rg} {va : Option Addr} {vcap : Nat} {l : List Int} (h : Asked w a c t va vcap l) (hb : Below w.heap.size w w') : Asked w' a c t va vcap l :=
  ⟨h.tab.below hb, h.ok, h.runes.below hb, h.len, h.dirs⟩
set_option maxRecDepth 20000 in
set_option maxHeartbeats 4000000 in
theorem rightB_any (a : Nat → Option Addr) (c : Nat → Nat) (t : Nat → List Rg) (va : Option Addr) (vcap : Nat) (l : List Int) (w : World) (h : Asked w a c t va vcap l) :
    Calls Tryd.prog 13 #[PV a c t, .slice va l.length vcap] w fun e w' => e = .returned (.bool (rightM (dirsM (t 9) l))) ∧ Below w.heap.size w w' := by
  have hF : ∀ args w, (callFunc 34 args).run Tryd.prog w = .ok (.enter 34 args) w := enters_of Tryd.func34 (by kernel_rfl) rfl
  obtain ⟨W0, hW0, hsz0, hb0, hp⟩ := prop_box w a c t
  have e0 : W0.cell? ⟨w.heap.size, 0, none⟩ = some (.slice (a 0) (t 0).length (c 0)) := hp 0 (by omega)
  have e1 : W0.cell? ⟨w.heap.size, 1, none⟩ = some (.slice (a 1) (t 1).length (c 1)) := hp 1 (by omega)
  have e2 : W0.cell? ⟨w.heap.size, 2, none⟩ = some (.slice (a 2) (t 2).length (c 2)) := hp 2 (by omega)
  have e3 : W0.cell? ⟨w.heap.size, 3, none⟩ = some (.slice (a 3) (t 3).length (c 3)) := hp 3 (by omega)
  have e4 : W0.cell? ⟨w.heap.size, 4, none⟩ = some (.slice (a 4) (t 4).length (c 4)) := hp 4 (by omega)
  have e5 : W0.cell? ⟨w.heap.size, 5, none⟩ = some (.slice (a 5) (t 5).length (c 5)) := hp 5 (by omega)
  have e6 : W0.cell? ⟨w.heap.size, 6, none⟩ = some (.slice (a 6) (t 6).length (c 6)) := hp 6 (by omega)
  have e7 : W0.cell? ⟨w.heap.size, 7, none⟩ = some (.slice (a 7) (t 7).length (c 7)) := hp 7 (by omega)
  have e8 : W0.cell? ⟨w.heap.size, 8, none⟩ = some (.slice (a 8) (t 8).length (c 8)) := hp 8 (by omega)
  have e9 : W0.cell? ⟨w.heap.size, 9, none⟩ = some (.slice (a 9) (t 9).length (c 9)) := hp 9 (by omega)
  have e10 : W0.cell? ⟨w.heap.size, 10, none⟩ = some (.slice (a 10) (t 10).length (c 10)) := hp 10 (by omega)
  have h' := h.below hb0
  have HD := Hid.mk' (directions_any a c t va vcap l W0 h'.tab h'.ok h'.runes h'.len h'.dirs)
  have hlen := dirsM_len (t 9) l
  have HR : Hid (∀ g W, ElemC W (some ⟨g, 0, none⟩) l.length (fun j => .int .u16 (setM ((dirsM (t 9) l).getD j 0))) → (Calls Tryd.prog 33 #[.slice (some ⟨g, 0, none⟩) l.length l.length, .func (.func 34) #[] #[]] W fun e w' => e = .returned (.bool (rightM (dirsM (t 9) l))) ∧ W = w')) := fun g W hE => by
    refine (containsS_any 34 #[] (fun i => isR ((dirsM (t 9) l).getD i 0)) (fun _ W' => W = W') (some ⟨g, 0, none⟩) l.length l.length (fun j => setM ((dirsM (t 9) l).getD j 0)) W (by have := h.len; omega) rfl (fun k W' e => by subst e; exact hE) hF (fun k W' hk e => by
      subst e
      refine (right1_any (setM ((dirsM (t 9) l).getD k 0)) W).mono ?_
      rintro e w' ⟨rfl, rfl⟩
      exact ⟨ret_bool (bits_right (h.dirs k (by omega))), rfl⟩)).mono ?_
    rintro e w' ⟨rfl, -, rfl⟩
    exact ⟨ret_bool (by unfold rightM; rw [hlen]), rfl⟩
  have HB := Hid.mk' hb0
  unfold PV at HD ⊢
  generalize rightM (dirsM (t 9) l) = res at *
  clear h h' hp hb0 hlen hF
  go_enter Tryd.func13, Tryd.ntmps13
  go_wp2_with fail
  refine HD.out.mono ?_
  rintro e w1 ⟨g, rfl, hE, hb1⟩
  have HRg := Hid.mk' (HR.out g w1 hE)
  have HB1 := Hid.mk' (HB.out.trans (hb1.mono HB.out.size))
  clear HR HD hE hb1 e0 e1 e2 e3 e4 e5 e6 e7 e8 e9 e10
  go_wp2_with fail
  refine HRg.out.mono ?_
  rintro e w2 ⟨rfl, rfl⟩
  go_wp2
  go_ret
  exact ⟨rfl, HB1.out⟩
set_option maxRecDepth 20000 in
set_option maxHeartbeats 8000000 in
theorem broken_any (a : Nat → Option Addr) (c : Nat → Nat) (t : Nat → List Rg) (va : Option Addr) (vcap : Nat) (l : List Int) (w : World) (h : Asked w a c t va vcap l) :
    Calls Tryd.prog 9 #[PV a c t, .slice va l.length vcap] w fun e w' => e = .returned (.tuple #[.int .i64 (brkM (dirsM (t 9) l)).1, .int .i64 (brkM (dirsM (t 9) l)).2]) ∧ Below w.heap.size w w' := by
  obtain ⟨W0, hW0, hsz0, hb0, hp⟩ := prop_box w a c t
  have e0 : W0.cell? ⟨w.heap.size, 0, none⟩ = some (.slice (a 0) (t 0).length (c 0)) := hp 0 (by omega)
  have e1 : W0.cell? ⟨w.heap.size, 1, none⟩ = some (.slice (a 1) (t 1).length (c 1)) := hp 1 (by omega)
  have e2 : W0.cell? ⟨w.heap.size, 2, none⟩ = some (.slice (a 2) (t 2).length (c 2)) := hp 2 (by omega)
  have e3 : W0.cell? ⟨w.heap.size, 3, none⟩ = some (.slice (a 3) (t 3).length (c 3)) := hp 3 (by omega)
  have e4 : W0.cell? ⟨w.heap.size, 4, none⟩ = some (.slice (a 4) (t 4).length (c 4)) := hp 4 (by omega)
  have e5 : W0.cell? ⟨w.heap.size, 5, none⟩ = some (.slice (a 5) (t 5).length (c 5)) := hp 5 (by omega)
  have e6 : W0.cell? ⟨w.heap.size, 6, none⟩ = some (.slice (a 6) (t 6).length (c 6)) := hp 6 (by omega)
  have e7 : W0.cell? ⟨w.heap.size, 7, none⟩ = some (.slice (a 7) (t 7).length (c 7)) := hp 7 (by omega)
  have e8 : W0.cell? ⟨w.heap.size, 8, none⟩ = some (.slice (a 8) (t 8).length (c 8)) := hp 8 (by omega)
  have e9 : W0.cell? ⟨w.heap.size, 9, none⟩ = some (.slice (a 9) (t 9).length (c 9)) := hp 9 (by omega)
  have e10 : W0.cell? ⟨w.heap.size, 10, none⟩ = some (.slice (a 10) (t 10).length (c 10)) := hp 10 (by omega)
  have h' := h.below hb0
  have HD := Hid.mk' (directions_any a c t va vcap l W0 h'.tab h'.ok h'.runes h'.len h'.dirs)
  have hlen := dirsM_len (t 9) l
  have hln := h.len
  have hdirs := h.dirs
  have HF : Hid (∀ g W, SetsC W (some ⟨g, 0, none⟩) (dirsM (t 9) l) → (Calls Tryd.prog 24 #[.slice (some ⟨g, 0, none⟩) l.length l.length] W fun e w' => e = .returned (.int .i64 (startM (dirsM (t 9) l))) ∧ W = w')) := fun g W hE => by
    have := firstRule_any (some ⟨g, 0, none⟩) l.length (dirsM (t 9) l) W hE hdirs
    rw [hlen] at this; exact this
  have HO2 : Hid (∀ g W, SetsC W (some ⟨g, 0, none⟩) (dirsM (t 9) l) → (Calls Tryd.prog 25 #[.slice (some ⟨g, 0, none⟩) l.length l.length, .int .u16 2046] W fun e w' => e = .returned (.int .i64 (idxN (dirsM (t 9) l).length (fun i => isL ((dirsM (t 9) l).getD i 0)))) ∧ Below W.heap.size W w')) := fun g W hE => by
    have := outside_any 2046 isL (fun d hd => bits_inR hd) (some ⟨g, 0, none⟩) l.length (dirsM (t 9) l) W hE (by omega) hdirs
    rw [hlen] at this ⊢; exact this
  have HO5 : Hid (∀ g W, SetsC W (some ⟨g, 0, none⟩) (dirsM (t 9) l) → (Calls Tryd.prog 25 #[.slice (some ⟨g, 0, none⟩) l.length l.length, .int .u16 2025] W fun e w' => e = .returned (.int .i64 (idxN (dirsM (t 9) l).length (fun i => isR ((dirsM (t 9) l).getD i 0)))) ∧ Below W.heap.size W w')) := fun g W hE => by
    have := outside_any 2025 isR (fun d hd => bits_inL hd) (some ⟨g, 0, none⟩) l.length (dirsM (t 9) l) W hE (by omega) hdirs
    rw [hlen] at this ⊢; exact this
  have HE3 : Hid ((dirsM (t 9) l).length ≠ 0 → ¬ 3 < (dirsM (t 9) l).getD 0 0 → ∀ g W, SetsC W (some ⟨g, 0, none⟩) (dirsM (t 9) l) → (Calls Tryd.prog 26 #[.slice (some ⟨g, 0, none⟩) l.length l.length, .int .u16 30] W fun e w' => e = .returned (.int .i64 (wrongM (fun d => decide (2 ≤ d ∧ d ≤ 5)) (dirsM (t 9) l))) ∧ W = w')) := fun hn h3 g W hE => by
    have := wrongEnd_any 30 (fun d => decide (2 ≤ d ∧ d ≤ 5)) (fun d hd => bits_endR hd) (some ⟨g, 0, none⟩) l.length (dirsM (t 9) l) W hE (by omega) hdirs hn h3
    rw [hlen] at this; exact this
  have HE6 : Hid ((dirsM (t 9) l).length ≠ 0 → ¬ 3 < (dirsM (t 9) l).getD 0 0 → ∀ g W, SetsC W (some ⟨g, 0, none⟩) (dirsM (t 9) l) → (Calls Tryd.prog 26 #[.slice (some ⟨g, 0, none⟩) l.length l.length, .int .u16 9] W fun e w' => e = .returned (.int .i64 (wrongM (fun d => decide (d = 1 ∨ d = 4)) (dirsM (t 9) l))) ∧ W = w')) := fun hn h3 g W hE => by
    have := wrongEnd_any 9 (fun d => decide (d = 1 ∨ d = 4)) (fun d hd => bits_endL hd) (some ⟨g, 0, none⟩) l.length (dirsM (t 9) l) W hE (by omega) hdirs hn h3
    rw [hlen] at this; exact this
  have HA4 : Hid (∀ g W, SetsC W (some ⟨g, 0, none⟩) (dirsM (t 9) l) → (Calls Tryd.prog 27 #[.slice (some ⟨g, 0, none⟩) l.length l.length, .int .u16 24] W fun e w' => e = .returned (.int .i64 (idxN (dirsM (t 9) l).length (bothB (dirsM (t 9) l)))) ∧ Below W.heap.size W w')) := fun g W hE => by
    have := allSeen_any (some ⟨g, 0, none⟩) l.length (dirsM (t 9) l) W hE (by omega) hdirs
    rw [hlen] at this ⊢; exact this
  have HS : Hid (∀ g W, ElemC W (some ⟨g, 0, none⟩) l.length (fun j => .int .u16 (setM ((dirsM (t 9) l).getD j 0))) → SetsC W (some ⟨g, 0, none⟩) (dirsM (t 9) l)) := fun g W hE => by unfold SetsC; rw [hlen]; exact hE
  have HB := Hid.mk' hb0
  unfold PV at HD ⊢
  generalize dirsM (t 9) l = ds at *
  clear h h' hp hb0 hlen
  have HW1 : Hid (startM ds = 1 → brkM ds = (1, 0)) := brk_way1
  rcases start_ways ds with hs | ⟨hs, hn, h3, h1⟩ | ⟨hs, hn, h3, h1⟩
  · have HX := Hid.mk' (HW1.out hs)
    rw [hs] at HF
    clear HO2 HO5 HE3 HE6 HA4 HW1 hs hdirs
    go_enter Tryd.func9, Tryd.ntmps9
    go_wp2_with fail
    refine HD.out.mono ?_
    rintro e w1 ⟨g, rfl, hE, hb1⟩
    have HFg := Hid.mk' (HF.out g w1 (HS.out g w1 hE))
    have HB1 := Hid.mk' (HB.out.trans (hb1.mono HB.out.size))
    clear HF HS HD hE hb1 e0 e1 e2 e3 e4 e5 e6 e7 e8 e9 e10
    go_wp2_with fail
    refine HFg.out.mono ?_
    rintro e w2 ⟨rfl, rfl⟩
    go_wp2
    go_ret2
    exact ⟨ret_two9 (b := (1, 0)) HX.out, HB1.out⟩
  · have HX := Hid.mk' (brk_way2 hdirs hn h3 h1)
    have HE3' := Hid.mk' (HE3.out hn h3)
    rw [hs] at HF
    generalize brkM ds = res at *
    generalize idxN ds.length (fun i => isL (ds.getD i 0)) = x2 at *
    generalize wrongM (fun d => decide (2 ≤ d ∧ d ≤ 5)) ds = x3 at *
    generalize idxN ds.length (bothB ds) = x4 at *
    clear HO5 HE3 HE6 HW1 hs hdirs hn h3 h1
    go_enter Tryd.func9, Tryd.ntmps9
    go_wp2_with fail
    refine HD.out.mono ?_
    rintro e w1 ⟨g, rfl, hE, hb1⟩
    have HSg := Hid.mk' (HS.out g w1 hE)
    have HFg := Hid.mk' (HF.out g w1 HSg.out)
    have HB1 := Hid.mk' (HB.out.trans (hb1.mono HB.out.size))
    clear HF HS HD hE hb1 e0 e1 e2 e3 e4 e5 e6 e7 e8 e9 e10
    go_wp2_with fail
    refine HFg.out.mono ?_
    rintro e w2 ⟨rfl, rfl⟩
    have HO := Hid.mk' (HO2.out g w1 HSg.out)
    clear HFg HO2
    go_wp2_with fail
    refine HO.out.mono ?_
    rintro e w3 ⟨rfl, hb3⟩
    have HS3 := Hid.mk' (HSg.out.below hb3)
    have HB3 := Hid.mk' (HB1.out.trans (hb3.mono HB1.out.size))
    clear HO HSg hb3 HB1
    by_cases g2 : 0 ≤ x2
    · have HR := Hid.mk' (HX.out.trans (if_pos g2))
      have hd : decide (0 ≤ x2) = true := decide_eq_true g2
      clear HX g2
      go_wp2
      go_ret2
      exact ⟨ret_two9 (b := (2, x2)) HR.out, HB3.out⟩
    have HX2 := Hid.mk' (HX.out.trans (if_neg g2))
    have hd : decide (0 ≤ x2) = false := decide_eq_false g2
    have HE := Hid.mk' (HE3'.out g w3 HS3.out)
    clear HX g2 HE3'
    go_wp2_with fail
    refine HE.out.mono ?_
    rintro e w4 ⟨rfl, rfl⟩
    clear HE
    by_cases g3 : 0 ≤ x3
    · have HR := Hid.mk' (HX2.out.trans (if_pos g3))
      have hd3 : decide (0 ≤ x3) = true := decide_eq_true g3
      clear HX2 g3
      go_wp2
      go_ret2
      exact ⟨ret_two9 (b := (3, x3)) HR.out, HB3.out⟩
    have HX3 := Hid.mk' (HX2.out.trans (if_neg g3))
    have hd3 : decide (0 ≤ x3) = false := decide_eq_false g3
    have HA := Hid.mk' (HA4.out g w3 HS3.out)
    clear HX2 g3 HA4
    go_wp2_with fail
    refine HA.out.mono ?_
    rintro e w5 ⟨rfl, hb5⟩
    have HB5 := Hid.mk' (HB3.out.trans (hb5.mono HB3.out.size))
    clear HA HS3 hb5 HB3
    by_cases g4 : 0 ≤ x4
    · have HR := Hid.mk' (HX3.out.trans (if_pos g4))
      have hd4 : decide (0 ≤ x4) = true := decide_eq_true g4
      clear HX3 g4
      go_wp2
      go_ret2
      exact ⟨ret_two9 (b := (4, x4)) HR.out, HB5.out⟩
    have HX4 := Hid.mk' (HX3.out.trans (if_neg g4))
    have hd4 : decide (0 ≤ x4) = false := decide_eq_false g4
    clear HX3 g4
    go_wp2
    go_ret2
    exact ⟨ret_two9 (b := (0, 0)) HX4.out, HB5.out⟩
  · have HX := Hid.mk' (brk_way5 hn h3 h1)
    have HE6' := Hid.mk' (HE6.out hn h3)
    rw [hs] at HF
    generalize brkM ds = res at *
    generalize idxN ds.length (fun i => isR (ds.getD i 0)) = x2 at *
    generalize wrongM (fun d => decide (d = 1 ∨ d = 4)) ds = x3 at *
    clear HO2 HE3 HE6 HA4 HW1 hs hdirs hn h3 h1
    go_enter Tryd.func9, Tryd.ntmps9
    go_wp2_with fail
    refine HD.out.mono ?_
    rintro e w1 ⟨g, rfl, hE, hb1⟩
    have HSg := Hid.mk' (HS.out g w1 hE)
    have HFg := Hid.mk' (HF.out g w1 HSg.out)
    have HB1 := Hid.mk' (HB.out.trans (hb1.mono HB.out.size))
    clear HF HS HD hE hb1 e0 e1 e2 e3 e4 e5 e6 e7 e8 e9 e10
    go_wp2_with fail
    refine HFg.out.mono ?_
    rintro e w2 ⟨rfl, rfl⟩
    have HO := Hid.mk' (HO5.out g w1 HSg.out)
    clear HFg HO5
    go_wp2_with fail
    refine HO.out.mono ?_
    rintro e w3 ⟨rfl, hb3⟩
    have HS3 := Hid.mk' (HSg.out.below hb3)
    have HB3 := Hid.mk' (HB1.out.trans (hb3.mono HB1.out.size))
    clear HO HSg hb3 HB1
    by_cases g2 : 0 ≤ x2
    · have HR := Hid.mk' (HX.out.trans (if_pos g2))
      have hd : decide (0 ≤ x2) = true := decide_eq_true g2
      clear HX g2
      go_wp2
      go_ret2
      exact ⟨ret_two9 (b := (5, x2)) HR.out, HB3.out⟩
    have HX2 := Hid.mk' (HX.out.trans (if_neg g2))
    have hd : decide (0 ≤ x2) = false := decide_eq_false g2
    have HE := Hid.mk' (HE6'.out g w3 HS3.out)
    clear HX g2 HE6'
    go_wp2_with fail
    refine HE.out.mono ?_
    rintro e w4 ⟨rfl, rfl⟩
    clear HE
    by_cases g3 : 0 ≤ x3
    · have HR := Hid.mk' (HX2.out.trans (if_pos g3))
      have hd3 : decide (0 ≤ x3) = true := decide_eq_true g3
      clear HX2 g3
      go_wp2
      go_ret2
      exact ⟨ret_two9 (b := (6, x3)) HR.out, HB3.out⟩
    have HX3 := Hid.mk' (HX2.out.trans (if_neg g3))
    have hd3 : decide (0 ≤ x3) = false := decide_eq_false g3
    clear HX2 g3
    go_wp2
    go_ret2
    exact ⟨ret_two9 (b := (0, 0)) HX3.out, HB3.out⟩
set_option maxRecDepth 20000 in
set_option maxHeartbeats 4000000 in
theorem label_any (a : Nat → Option Addr) (c : Nat → Nat) (t : Nat → List Rg) (va : Option Addr) (vcap : Nat) (l : List Int) (w : World) (p : Nat → Addr) (hg : Gl p w) (h : Asked w a c t va vcap l) :
    Calls Tryd.prog 12 #[PV a c t, .slice va l.length vcap] w fun e w' => ∃ fv, e = .returned fv ∧ (((brkM (dirsM (t 9) l)).1 = 0 ∧ fv = .nilIface) ∨ ((brkM (dirsM (t 9) l)).1 ≠ 0 ∧ Flt w' fv w.heap.size (brkM (dirsM (t 9) l)).2 (p 12))) ∧ Below w.heap.size w w' := by
  obtain ⟨W0, hW0, hsz0, hb0, hp⟩ := prop_box w a c t
  have e0 : W0.cell? ⟨w.heap.size, 0, none⟩ = some (.slice (a 0) (t 0).length (c 0)) := hp 0 (by omega)
  have e1 : W0.cell? ⟨w.heap.size, 1, none⟩ = some (.slice (a 1) (t 1).length (c 1)) := hp 1 (by omega)
  have e2 : W0.cell? ⟨w.heap.size, 2, none⟩ = some (.slice (a 2) (t 2).length (c 2)) := hp 2 (by omega)
  have e3 : W0.cell? ⟨w.heap.size, 3, none⟩ = some (.slice (a 3) (t 3).length (c 3)) := hp 3 (by omega)
  have e4 : W0.cell? ⟨w.heap.size, 4, none⟩ = some (.slice (a 4) (t 4).length (c 4)) := hp 4 (by omega)
  have e5 : W0.cell? ⟨w.heap.size, 5, none⟩ = some (.slice (a 5) (t 5).length (c 5)) := hp 5 (by omega)
  have e6 : W0.cell? ⟨w.heap.size, 6, none⟩ = some (.slice (a 6) (t 6).length (c 6)) := hp 6 (by omega)
  have e7 : W0.cell? ⟨w.heap.size, 7, none⟩ = some (.slice (a 7) (t 7).length (c 7)) := hp 7 (by omega)
  have e8 : W0.cell? ⟨w.heap.size, 8, none⟩ = some (.slice (a 8) (t 8).length (c 8)) := hp 8 (by omega)
  have e9 : W0.cell? ⟨w.heap.size, 9, none⟩ = some (.slice (a 9) (t 9).length (c 9)) := hp 9 (by omega)
  have e10 : W0.cell? ⟨w.heap.size, 10, none⟩ = some (.slice (a 10) (t 10).length (c 10)) := hp 10 (by omega)
  have HK := Hid.mk' (broken_any a c t va vcap l W0 (h.below hb0))
  have HG : Hid (∀ W, Below w.heap.size w W → W.cell? ⟨0, 0, none⟩ = some (.iface 117 (.pointer (some (p 12))))) := fun W hb => (hg.below hb).g12
  have HB := Hid.mk' hb0
  unfold PV at HK ⊢
  generalize brkM (dirsM (t 9) l) = x at *
  obtain ⟨x1, x2⟩ := x
  simp only [] at HK ⊢
  clear h hg hp hb0
  by_cases hz : x1 = 0
  · subst hz
    go_enter Tryd.func12, Tryd.ntmps12
    go_wp2_with fail
    refine HK.out.mono ?_
    rintro e w1 ⟨rfl, hb1⟩
    have HB1 := Hid.mk' (HB.out.trans (hb1.mono HB.out.size))
    clear HK hb1 e0 e1 e2 e3 e4 e5 e6 e7 e8 e9 e10
    go_wp2
    go_ret
    exact ⟨_, rfl, .inl ⟨by simp, rfl⟩, HB1.out⟩
  · have hz' : (x1 == 0) = false := by simpa using hz
    have HZ := Hid.mk' hz
    clear hz
    go_enter Tryd.func12, Tryd.ntmps12
    go_wp2_with fail
    refine HK.out.mono ?_
    rintro e w1 ⟨rfl, hb1⟩
    have hB1 := HB.out.trans (hb1.mono HB.out.size)
    have g12 := HG.out w1 hB1
    have HB1 := Hid.mk' hB1
    clear HK hb1 hB1 e0 e1 e2 e3 e4 e5 e6 e7 e8 e9 e10
    go_wp2
    go_ret
    exact ⟨_, rfl, .inr ⟨HZ.out, flt_new HB1.out.size _ _⟩, HB1.out.alloc HB1.out.size _⟩
end Go.Proofs.YtcklfcoobccgcaaDoor

/-
  What is proved here: the law's look at the document's example, Great, Is at what a check answers.
-/
import Derived.Test.YtjjoedkigjekcaaGreatDoorJP
import Derived.Test.YtjjoedkigjekcaaGreatDoorJ9
namespace Go.Proofs.YtjjoedkigjekcaaGreatDoor
open Go.RowKit

theorem oneM_codes (gd : List UInt8 → Bool) (lv : Nat) (k : Int) (s : List UInt8) (ll : Nat) (ns : List (List UInt8)) : oneM gd lv k s ll ns = 0 ∨ Code (oneM gd lv k s ll ns) := by
  unfold oneM Code
  repeat' split
  all_goals simp
theorem seqF_codes {l : List (Nat → Nat → Nat × Nat)} (h : ∀ f ∈ l, ∀ lv n, (f lv n).2 = 0 ∨ Code (f lv n).2) : ∀ lv n, (seqF l lv n).2 = 0 ∨ Code (seqF l lv n).2 := by
  induction l with
  | nil => intro lv n; exact .inl rfl
  | cons f l ih =>
    intro lv n
    rw [seqF]
    split
    · exact ih (fun g hg => h g (by simp [hg])) _ _
    · exact h f (by simp) _ _
theorem look_codes : ∀ t : J, ∀ lv n, (lookM gd t lv n).2 = 0 ∨ Code (lookM gd t lv n).2 := by
  refine J.ind ?_
  intro k s l m ihl ihm lv n
  rw [lookM_mk, lookF]
  have h1 := seqF_codes (l := l.map (lookM gd)) (by intro f hf; obtain ⟨t, ht, rfl⟩ := List.mem_map.1 hf; exact ihl t ht)
  have h2 := seqF_codes (l := (m.map fun x => (x.1, lookM gd x.2)).map fun x => x.2) (by
    intro f hf
    obtain ⟨y, hy, rfl⟩ := List.mem_map.1 hf
    obtain ⟨x, hx, rfl⟩ := List.mem_map.1 hy
    exact ihm x hx)
  split
  · split
    · exact h2 _ _
    · exact h1 _ _
  · exact oneM_codes ..
theorem check_codes (t : J) : (checkM gd t).2 = 0 ∨ Code (checkM gd t).2 := by
  unfold checkM
  split
  · exact .inl rfl
  · exact look_codes t 1 0
theorem check_good {t : J} (h : (checkM gd t).2 = 0) : Good gd t := by
  unfold checkM at h
  split at h
  · rename_i e; exact look_good gd t 1 0 e
  · exact look_good gd t 1 0 h
/-- Is at what a check answers -/
theorem lawIs_says (v : Value) (B : Nat) (x : Nat × Nat) (w : World) (p : Nat → Addr) (hg : Gl p w) (het : Et w) (hc : x.2 = 0 ∨ Code x.2) (hs : Says w v B p x) :
    Calls Tryz.prog 11 #[v, .int .i64 (x.1 : Nat), .int .i64 (x.2 : Nat)] w fun e w' => e = .returned (.bool true) ∧ Below w.heap.size w w' := by
  rcases hs with ⟨rfl, rfl⟩ | ⟨h0, hf⟩
  · refine (lawIs_none 0 w).mono ?_
    rintro e w' ⟨rfl, rfl⟩
    exact ⟨rfl, Below.refl _ _⟩
  · exact lawIs_fault v B x.1 x.2 w p hg het (hc.resolve_left h0) hf
set_option maxHeartbeats 1000000 in
theorem great12_any (t : J) (hs : Small 140737488355328 t) (cs : List Value) (w : World) (hv : VJ w t cs) :
    Calls Tryz.prog 9 #[.agg cs.toArray] w fun e w' => e = .returned (.bool (decide (2000 < weight t))) ∧ Below w.heap.size w w' := by
  obtain ⟨c0, c1, c2, c3, rfl⟩ : ∃ c0 c1 c2 c3, cs = [c0, c1, c2, c3] := by
    have := hv.len
    match cs, this with
    | [c0, c1, c2, c3], _ => exact ⟨c0, c1, c2, c3, rfl⟩
  obtain ⟨W0, hW0, hsz, hb0, e0, e1, e2, e3⟩ := val_box w c0 c1 c2 c3
  have HL := Hid.mk' (count_any t hs [c0, c1, c2, c3] W0 2000 (by omega) (hv.below hb0))
  have hcw := count_weight t 2000
  have hd : decide ((countM t 2000 : Int) > 2000) = decide (2000 < weight t) := by
    rw [decide_eq_decide]
    rcases Nat.lt_or_ge 2000 (weight t) with g | g
    · have := hcw.2 g; omega
    · have := hcw.1 g; omega
  have HDD := Hid.mk' hd
  generalize countM t 2000 = c at *
  clear hv hcw hd
  go_enter Tryz.func9, Tryz.ntmps9
  go_wp2_with fail
  refine HL.out.mono ?_
  rintro e w1 ⟨rfl, hb1⟩
  have hfin := hb0.trans (hb1.mono hb0.size)
  clear HL e0 e1 e2 e3
  go_wp2
  go_ret
  exact ⟨ret_bool (by rw [← HDD.out]), hfin⟩
/-- the document's example -/
def exJ : J := .mk 6 [] [] [([97], .mk 5 [] [.mk 3 [49] [] [], .mk 0 [] [] []] [])]
theorem ex_weight : weight exJ = 6 := by
  simp [exJ, weight_mk]
theorem ex_size : sizeM exJ = 4 := by
  simp [exJ, sizeM_mk]
theorem ex_text : textM exJ = [123, 34, 97, 34, 58, 91, 49, 44, 110, 117, 108, 108, 93, 125] := by
  simp only [exJ, textM_mk, List.map_cons, List.map_nil]
  decide
theorem ex_check : (checkM gd exJ).2 = 0 := by
  have : ∀ g : List UInt8 → Bool, g [97] = true → (checkM g exJ).2 = 0 := fun g hg => by
    simp [checkM, exJ, lookM_mk, lookF, seqF, oneM, hg, show writtenM [49] = true from by decide]
  exact this gd (by decide)
/-- values that lie in a row that was just made -/
theorem cells_new4 (w : World) (l : List Value) (t : TypeId) (o n : Nat) (ds : List Value) (hl : ds.length = n) (h : ∀ i u, ds[i]? = some u → l[o + i]? = some u) : CellsAt (w.alloc (.cells l.toArray t)) w.heap.size o ds n := by
  refine ⟨hl, fun i u hu => ?_⟩
  rw [World.cell?_alloc_new, List.getElem?_toArray]
  exact h i u hu
theorem sl_two (w : World) (t : J) (c0 c1 c2 c3 : Value) (hv : VJ w t [c0, c1, c2, c3]) (ty : TypeId) : SL (w.alloc (.cells #[c0, c1, c2, c3, .int .i64 0, .string ⟨#[]⟩, .slice none 0 0, .slice none 0 0] ty)) (.slice (some ⟨w.heap.size, 0, none⟩) 2 2) [t, .mk 0 [] [] []] := by
  have hb : Below w.heap.size w (w.alloc (.cells #[c0, c1, c2, c3, .int .i64 0, .string ⟨#[]⟩, .slice none 0 0, .slice none 0 0] ty)) := (Below.refl _ _).alloc (Nat.le_refl _) _
  refine ⟨_, _, rfl, fun j x hj => ?_⟩
  match j, hj with
  | 0, hj =>
    obtain rfl := Option.some.inj hj
    refine ⟨w.heap.size, 0, [c0, c1, c2, c3], rfl, cells_new4 w [c0, c1, c2, c3, .int .i64 0, .string ⟨#[]⟩, .slice none 0 0, .slice none 0 0] ty _ 4 _ rfl ?_, hv.below hb⟩
    intro i u hu
    match i, hu with
    | 0, hu => exact hu
    | 1, hu => exact hu
    | 2, hu => exact hu
    | 3, hu => exact hu
  | 1, hj =>
    obtain rfl := Option.some.inj hj
    refine ⟨w.heap.size, 0, [.int .i64 0, .string ⟨#[]⟩, .slice none 0 0, .slice none 0 0], rfl, cells_new4 w [c0, c1, c2, c3, .int .i64 0, .string ⟨#[]⟩, .slice none 0 0, .slice none 0 0] ty _ 4 _ rfl ?_, (VJ_mk ..).2 ⟨none, 0, none, 0, rfl, fun j t h => by simp at h, fun j x h => by simp at h⟩⟩
    intro i u hu
    match i, hu with
    | 0, hu => exact hu
    | 1, hu => exact hu
    | 2, hu => exact hu
    | 3, hu => exact hu
theorem sm_one (w : World) (n : List UInt8) (t : J) (c0 c1 c2 c3 : Value) (hv : VJ w t [c0, c1, c2, c3]) (ty : TypeId) : SM (w.alloc (.cells #[.string (strL n), c0, c1, c2, c3] ty)) (.slice (some ⟨w.heap.size, 0, none⟩) 1 1) [(n, t)] := by
  have hb : Below w.heap.size w (w.alloc (.cells #[.string (strL n), c0, c1, c2, c3] ty)) := (Below.refl _ _).alloc (Nat.le_refl _) _
  refine ⟨_, _, rfl, fun j x hj => ?_⟩
  match j, hj with
  | 0, hj =>
    obtain rfl := Option.some.inj hj
    refine ⟨w.heap.size, 0, [c0, c1, c2, c3], rfl, cells_new4 w [.string (strL n), c0, c1, c2, c3] ty _ 5 _ rfl ?_, hv.below hb⟩
    intro i u hu
    match i, hu with
    | 0, hu => exact hu
    | 1, hu => exact hu
    | 2, hu => exact hu
    | 3, hu => exact hu
    | 4, hu => exact hu
theorem four_cells {W : World} {t : J} {cs : List Value} (h : VJ W t cs) : ∃ c0 c1 c2 c3, cs = [c0, c1, c2, c3] := by
  have := h.len
  match cs, this with
  | [c0, c1, c2, c3], _ => exact ⟨c0, c1, c2, c3, rfl⟩
set_option maxRecDepth 20000 in
set_option maxHeartbeats 4000000 in
theorem awake12_any (w : World) (p : Nat → Addr) (hg : Gl p w) :
    Calls Tryz.prog 8 #[] w fun e w' => e = .returned (.bool true) ∧ Below w.heap.size w w' := by
  have HI := Hid.mk' (int12_one w)
  have HG := Hid.mk' hg
  clear hg
  go_enter Tryz.func8, Tryz.ntmps8
  go_wp2_with fail
  refine HI.out.mono ?_
  rintro e w1 ⟨⟨cs, rfl, hv⟩, hb1⟩
  obtain ⟨c0, c1, c2, c3, rfl⟩ := four_cells hv
  have HV := Hid.mk' hv
  clear HI hv
  go_wp2_with fail
  obtain ⟨W1, hW1⟩ : ∃ W1, w1.alloc (.cells #[c0, c1, c2, c3, .int .i64 0, .string ⟨#[]⟩, .slice none 0 0, .slice none 0 0] 25) = W1 := ⟨_, rfl⟩
  have HS1 := sl_two w1 _ c0 c1 c2 c3 HV.out 25
  rw [hW1] at HS1 ⊢
  have hz1 : Below w.heap.size w W1 := by rw [← hW1]; exact hb1.alloc hb1.size _
  have HL := Hid.mk' (list12_any _ (by simp) (by intro t ht; simp at ht; rcases ht with rfl | rfl <;> simp [weight_mk]) _ W1 HS1)
  clear HS1 HV hW1 hb1
  refine HL.out.mono ?_
  rintro e w2 ⟨⟨cs, rfl, hv⟩, hb2⟩
  have hz2 := below_tr _ _ hz1 hb2
  obtain ⟨d0, d1, d2, d3, rfl⟩ := four_cells hv
  have HV := Hid.mk' hv
  clear HL hv hz1 hb2
  go_wp2_with fail
  obtain ⟨W2, hW2⟩ : ∃ W2, w2.alloc (.cells #[.string ⟨#[97]⟩, d0, d1, d2, d3] 43) = W2 := ⟨_, rfl⟩
  have HS2 := sm_one w2 [97] _ d0 d1 d2 d3 HV.out 43
  rw [show strL [97] = ⟨#[97]⟩ from rfl] at HS2
  rw [hW2] at HS2 ⊢
  have hz3 : Below w.heap.size w W2 := by rw [← hW2]; exact hz2.alloc hz2.size _
  have HL := Hid.mk' (obj12_any _ (by simp) (by intro x hx; simp at hx; subst hx; simp [weight_mk]) _ W2 HS2)
  clear HS2 HV hW2 hz2
  refine HL.out.mono ?_
  rintro e w3 ⟨⟨cs, rfl, hv⟩, hb4⟩
  have hz4 := below_tr _ _ hz3 hb4
  obtain ⟨fa, fca, fb, fcb, rfl⟩ : ∃ fa fca fb fcb, cs = [.int .i64 6, .string ⟨#[]⟩, .slice fa 0 fca, .slice fb 1 fcb] := by
    obtain ⟨fa, fca, fb, fcb, e, -, -⟩ := (VJ_mk ..).1 hv
    exact ⟨fa, fca, fb, fcb, e⟩
  obtain ⟨W3, hW3, hsz3, hb3, e0, e1, e2, e3⟩ := val_box w3 (.int .i64 6) (.string ⟨#[]⟩) (.slice fa 0 fca) (.slice fb 1 fcb)
  have hv : VJ w3 exJ [.int .i64 6, .string ⟨#[]⟩, .slice fa 0 fca, .slice fb 1 fcb] := hv
  have hz5 : Below w.heap.size w W3 := hz4.trans (hb3.mono hz4.size)
  have HTX : Hid (Calls Tryz.prog 17 #[.agg #[.int .i64 6, .string ⟨#[]⟩, .slice fa 0 fca, .slice fb 1 fcb]] W3 fun e w' => e = .returned (.string ⟨#[123, 34, 97, 34, 58, 91, 49, 44, 110, 117, 108, 108, 93, 125]⟩) ∧ Below W3.heap.size W3 w') := by
    have := text12_any exJ (by rw [ex_weight]; omega) [.int .i64 6, .string ⟨#[]⟩, .slice fa 0 fca, .slice fb 1 fcb] W3 p (HG.out.below hz5) (hv.below hb3)
    rw [if_pos ex_check, ex_text] at this
    exact this
  have HSZ : Hid (∀ W, Below W3.heap.size W3 W → (W.cell? ⟨w3.heap.size, 0, none⟩ = some (.int .i64 6) ∧ W.cell? ⟨w3.heap.size, 1, none⟩ = some (.string ⟨#[]⟩) ∧ W.cell? ⟨w3.heap.size, 2, none⟩ = some (.slice fa 0 fca) ∧ W.cell? ⟨w3.heap.size, 3, none⟩ = some (.slice fb 1 fcb)) ∧ Calls Tryz.prog 13 #[.agg #[.int .i64 6, .string ⟨#[]⟩, .slice fa 0 fca, .slice fb 1 fcb]] W fun e w' => e = .returned (.int .i64 4) ∧ Below W.heap.size W w') := fun W hb => by
    have := size12_any exJ (by rw [ex_weight]; omega) [.int .i64 6, .string ⟨#[]⟩, .slice fa 0 fca, .slice fb 1 fcb] W ((hv.below hb3).below hb)
    rw [ex_size] at this
    exact ⟨⟨(hb.cell (lt_of_cell e0)).trans e0, (hb.cell (lt_of_cell e1)).trans e1, (hb.cell (lt_of_cell e2)).trans e2, (hb.cell (lt_of_cell e3)).trans e3⟩, this⟩
  clear HL hv hz3 hb4 hb3 HG
  go_wp2_with fail
  refine HTX.out.mono ?_
  rintro e w4 ⟨rfl, hb6⟩
  obtain ⟨⟨g0, g1, g2, g3⟩, hS⟩ := HSZ.out _ hb6
  have HS := Hid.mk' hS
  have hz6 := below_tr _ _ hz5 hb6
  clear HTX HSZ hS e0 e1 e2 e3 hz5 hb6 hz4
  go_wp2_with fail
  refine HS.out.mono ?_
  rintro e w5 ⟨rfl, hb7⟩
  have hz7 := below_tr _ _ hz6 hb7
  clear HS g0 g1 g2 g3
  go_wp2
  go_ret
  exact ⟨rfl, hz7⟩
end Go.Proofs.YtjjoedkigjekcaaGreatDoor

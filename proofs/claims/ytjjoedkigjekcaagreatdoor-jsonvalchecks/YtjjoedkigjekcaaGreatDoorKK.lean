/-
  What is proved here: members in the order of their names: what jsonval.byName answers.
-/
import Derived.Test.YtjjoedkigjekcaaGreatDoorMG
import Derived.Test.YtjjoedkigjekcaaGreatDoorShelf
import Derived.Test.YtjjoedkigjekcaaGreatDoorShelfS
import Derived.Shelf.SlSortCmp.NoneTotal
namespace Go.Proofs.YtjjoedkigjekcaaGreatDoor
open Go.RowKit

theorem cmp_lt : ∀ a b : List UInt8, (Lib.compareBytes a b < 0) ↔ a < b
  | [], [] => by simp [Lib.compareBytes]
  | [], _ :: _ => by simp [Lib.compareBytes]
  | _ :: _, [] => by simp [Lib.compareBytes]
  | a :: xs, b :: ys => by
    rw [List.cons_lt_cons_iff]
    unfold Lib.compareBytes
    by_cases h1 : a < b
    · simp [h1]
    · rw [if_neg h1]
      by_cases h2 : b < a
      · have hne : a ≠ b := fun e => h1 (by rw [e] at h2 ⊢; exact h2)
        simp [h1, h2, hne]
      · have he : a = b := by
          have h1' : ¬ a.toNat < b.toNat := fun h => h1 (UInt8.lt_iff_toNat_lt.2 h)
          have h2' : ¬ b.toNat < a.toNat := fun h => h2 (UInt8.lt_iff_toNat_lt.2 h)
          exact UInt8.toNat_inj.1 (by omega)
        rw [if_neg h2, cmp_lt xs ys]
        simp [he]
/-- a member as its cells are, with what it is -/
structure MC where
  x : List UInt8 × J
  k : Int
  s : ByteArray
  a : Option Addr
  la : Nat
  ca : Nat
  b : Option Addr
  lb : Nat
  cb : Nat
instance : Inhabited MC := ⟨⟨([], .mk 0 [] [] []), 0, ⟨#[]⟩, none, 0, 0, none, 0, 0⟩⟩
def MC.cells (y : MC) : List Value := [.int .i64 y.k, .string y.s, .slice y.a y.la y.ca, .slice y.b y.lb y.cb]
def encMC (y : MC) : List Value := .string (strL y.x.1) :: y.cells
def cfMC (y z : MC) : Int := Lib.compareBytes y.x.1 z.x.1
theorem lt_MC (y z : MC) : ltOf cfMC y z = decide (y.x.1 < z.x.1) := by
  unfold ltOf cfMC
  exact decide_eq_decide.2 (cmp_lt _ _)
theorem swo_MC : Go.Sort.SWO (ltOf cfMC) where
  irrefl x := by rw [lt_MC]; simp [List.lt_irrefl]
  trans x y z h1 h2 := by
    rw [lt_MC] at *
    simp only [decide_eq_true_eq] at *
    exact List.lt_trans h1 h2
  ntrans x y z h1 h2 := by
    rw [lt_MC] at *
    simp only [decide_eq_false_iff_not, List.not_lt] at *
    exact List.le_trans h2 h1
theorem one_MC (y : MC) : ∀ v ∈ encMC y, v.oneCell' = true := by
  intro v hv
  simp [encMC, MC.cells] at hv
  rcases hv with rfl | rfl | rfl | rfl | rfl <;> rfl
set_option maxHeartbeats 1000000 in
theorem byName1_any (y z : MC) (W : World) : Calls Tryz.prog 65 #[.agg (encMC y).toArray, .agg (encMC z).toArray] W fun e w' => e = .returned (.int .i64 (cfMC y z)) ∧ ∃ q os', w' = Go.Sort.grow (W.drewN q) os' := by
  have hcon := fun W' => Tryz.strings_Compare (strL y.x.1) (strL z.x.1) W'
  rw [strL_toList, strL_toList] at hcon
  have HC := Hid.mk' hcon
  unfold cfMC
  simp only [encMC, MC.cells]
  clear hcon
  generalize Lib.compareBytes y.x.1 z.x.1 = r at HC ⊢
  generalize strL y.x.1 = Y at *
  generalize strL z.x.1 = Z at *
  go_enter Tryz.func65, Tryz.ntmps65
  go_wp2_with (go_at_call 66; refine (HC.out _).mono ?_; rintro e w' ⟨rfl, rfl⟩)
  go_ret
  exact ⟨rfl, 0, _, by rw [Go.Sort.alloc_eq_grow, Go.Sort.alloc_eq_grow, Go.Sort.grow_grow]; rfl⟩
theorem cmpLays_MC (blk off size : Nat) (w : World) : CmpLays Tryz.prog 65 #[] encMC 5 cfMC blk off size w := fun _ _ _ _ y z => byName1_any y z _
theorem enters_byName1 : ∀ args w, (callFunc 65 args).run Tryz.prog w = .ok (.enter 65 args) w := enters_of Tryz.func65 (by kernel_rfl) rfl
theorem Tryz.aggMember : ∀ w, (isAgg 43).run Tryz.prog w = .ok true w := fun w => by kernel_rfl
theorem Tryz.sizeMember : ∀ w, (Go.sizeOf 43).run Tryz.prog w = .ok 5 w := fun w => by kernel_rfl
theorem flatK_at (d : Array MC) (i q : Nat) (hi : i < d.size) (hq : q < 5) : (Go.Sort.flatK encMC 5 d)[i * 5 + q]! = (encMC d[i]!)[q]! := by
  rw [Go.Sort.get_flatK _ _ _ _ (by omega), show (i * 5 + q) / 5 = i from by omega, show (i * 5 + q) % 5 = q from by omega]
/-- slices.SortFunc at members -/
theorem sortM_any (d : Array MC) (g cap : Nat) (w : World) (B : Nat) (hH : Go.Sort.HoldsK encMC 5 w g 0 d) (hg : g < w.heap.size) (hB : B ≤ g) (hsz : d.size ≤ 100000) :
    Calls Tryz.prog 64 #[.slice (some ⟨g, 0, none⟩) d.size cap, .func (.func 65) #[] #[]] w fun e w' => e = .returned (.tuple #[]) ∧ ∃ d' : Array MC, d'.toList.Perm d.toList ∧ (d'.toList.Pairwise fun y z => y.x.1 ≤ z.x.1) ∧ Go.Sort.HoldsK encMC 5 w' g 0 d' ∧ Below B w w' := by
  have hcon := AnyQ.slices_SortFunc Tryz.laysSF 5 Tryz.aggMember Tryz.sizeMember encMC (fun _ => rfl) one_MC cfMC swo_MC 65 #[] g 0 cap d w enters_byName1 (cmpLays_MC g 0 d.size w) hH hg (by omega)
  change Calls Tryz.prog 64 _ _ _ at hcon
  refine hcon.mono ?_
  rintro e w' ⟨rfl, d', n, os, hp, hs, rfl⟩
  obtain ⟨hp1, -, hp3⟩ := hp
  have hl : d'.toList.Perm d.toList := by
    have e1 : d'.extract 0 d.size = d' := by rw [← hp1]; simp
    have e2 : d.extract 0 d.size = d := by simp
    rw [e1, e2] at hp3
    exact hp3
  refine ⟨rfl, d', hl, ?_, ?_, ?_⟩
  · rw [List.pairwise_iff_getElem]
    intro i j hi hj hij
    have hj' : j < d'.size := by simpa using hj
    have h := hs i j (Nat.zero_le _) hij (by omega)
    rw [lt_MC, decide_eq_false_iff_not, List.not_lt, getElem!_pos d' i (by omega), getElem!_pos d' j hj'] at h
    simpa using h
  · exact Go.Sort.holdsK_grow _ _ _ _ _ _ _ (by simpa [Go.Sort.putRowK] using hg) (Go.Sort.holdsK_putRowK _ _ _ _ _ d d' (Go.Sort.holdsK_ahead _ _ _ _ _ _ _ hH) hp1)
  · have h1 := Lib.below_putRow (enc := id) (q := n) (d := Go.Sort.flatK encMC 5 d') (Below.refl B w) hB
    exact h1.trans (Lib.below_grow _ _ (by simpa using (by omega : B ≤ w.heap.size)) 0 os)
/-- members with their cells, by their kinds -/
theorem mcs_of {w : World} : ∀ {L : List ((List UInt8 × J) × List Value)}, (∀ x ∈ L, VJ w x.1.2 x.2) → ∃ D : List MC, D.map (fun y => y.x) = L.map (fun x => x.1) ∧ (∀ y ∈ D, VJ w y.x.2 y.cells) ∧ flatM L = D.flatMap encMC
  | [], _ => ⟨[], rfl, by simp, rfl⟩
  | (x, cs) :: L, h => by
    obtain ⟨D, h1, h2, h3⟩ := mcs_of (L := L) (fun y hy => h y (by simp [hy]))
    have hv := h (x, cs) (by simp)
    obtain ⟨a, ca, b, cb, e⟩ := hv.cells
    simp only [] at e hv
    refine ⟨⟨x, x.2.k, strL x.2.s, a, x.2.l.length, ca, b, x.2.m.length, cb⟩ :: D, by simp [h1], ?_, ?_⟩
    · intro y hy
      rcases List.mem_cons.1 hy with rfl | hy
      · show VJ w x.2 [_, _, _, _]
        rw [← e]; exact hv
      · exact h2 y hy
    · have e2 : flatM ((x, cs) :: L) = (.string (strL x.1) :: cs) ++ flatM L := by simp [flatM]
      rw [e2, h3, e]
      rfl
theorem flat_mc : ∀ (D : List MC) (i q : Nat), i < D.length → q < 5 → (D.flatMap encMC)[i * 5 + q]? = (encMC D[i]!)[q]?
  | [], i, q, hi, hq => by simp at hi
  | y :: D, 0, q, hi, hq => by
    rw [List.flatMap_cons, List.getElem?_append_left (by show 0 * 5 + q < 5; omega), Nat.zero_mul, Nat.zero_add]
    rfl
  | y :: D, i + 1, q, hi, hq => by
    have hl : (encMC y).length = 5 := rfl
    rw [List.flatMap_cons, List.getElem?_append_right (by omega), hl, show (i + 1) * 5 + q - 5 = i * 5 + q from by omega, flat_mc D i q (by simpa using hi) hq]
    simp
theorem holds_mc {W : World} {B g cap : Nat} {T : TypeId} {D : List MC} (ho : W.ownsRow B T 5 (.slice (some ⟨g, 0, none⟩) D.length cap) D.length (D.flatMap encMC)) : Go.Sort.HoldsK encMC 5 W g 0 D.toArray := by
  intro j hj
  rw [Go.Sort.size_flatK] at hj
  have hj' : j < D.length * 5 := by simpa using hj
  refine ⟨?_, ho.frozenAt _⟩
  rw [Nat.zero_add, ho.cellAt j hj']
  have e : j = j / 5 * 5 + j % 5 := by omega
  have hi : j / 5 < D.length := by omega
  rw [e, flat_mc D (j / 5) (j % 5) hi (by omega), flatK_at _ _ _ (by simpa using hi) (by omega)]
  have e2 : D.toArray[j / 5]! = D[j / 5]! := by simp
  rw [e2]
  have h5 : (encMC D[j / 5]!).length = 5 := rfl
  simp only [id]
  rw [getElem!_pos (encMC D[j / 5]!) (j % 5) (by rw [h5]; omega), List.getElem?_eq_getElem (by rw [h5]; omega)]
theorem sm_mc {W : World} {g cap : Nat} {d : Array MC} (hH : Go.Sort.HoldsK encMC 5 W g 0 d) (hv : ∀ y ∈ d.toList, VJ W y.x.2 y.cells) : SM W (.slice (some ⟨g, 0, none⟩) d.size cap) (d.toList.map fun y => y.x) := by
  refine ⟨some ⟨g, 0, none⟩, cap, by simp, fun j x hj => ?_⟩
  rw [List.getElem?_map] at hj
  cases e : d.toList[j]? with
  | none => rw [e] at hj; cases hj
  | some y =>
    rw [e] at hj
    cases hj
    have hjl : j < d.size := by
      have := (List.getElem?_eq_some_iff.1 e).1
      simpa using this
    refine ⟨g, 0, y.cells, rfl, ⟨rfl, fun i u hu => ?_⟩, hv y (List.mem_of_getElem? e)⟩
    have hi : i < 5 := (List.getElem?_eq_some_iff.1 hu).1
    have h := (hH (j * 5 + i) (by rw [Go.Sort.size_flatK]; omega)).1
    rw [flatK_at d j i hjl hi] at h
    have ey : d[j]! = y := by
      rw [getElem!_pos d j hjl]
      have h2 := e
      rw [List.getElem?_eq_getElem (by simpa using hjl)] at h2
      simpa using Option.some.inj h2
    rw [ey] at h
    rw [Nat.zero_add] at h ⊢
    rw [h]
    have h3 : (encMC y)[i]! = u := by
      have h4 : (encMC y)[i]? = some u := hu
      rw [getElem!_pos (encMC y) i hi]
      rw [List.getElem?_eq_getElem hi] at h4
      exact Option.some.inj h4
    rw [h3]; rfl
set_option maxRecDepth 20000 in
set_option maxHeartbeats 4000000 in
theorem byName_any (m : List (List UInt8 × J)) (hl : m.length ≤ 100000) (b : Option Addr) (cb : Nat) (w : World) (hM : MemAt w b m) :
    Calls Tryz.prog 46 #[.slice b m.length cb] w fun e w' => ∃ (v' : Value) (n : List (List UInt8 × J)), e = .returned v' ∧ n.Perm m ∧ (n.Pairwise fun x y => x.1 ≤ y.1) ∧ SM w' v' n ∧ Below w.heap.size w w' := by
  obtain ⟨L, rfl, hLv, hLr⟩ := rowsM_of hM
  obtain ⟨D, hD1, hD2, hD3⟩ := mcs_of hLv
  have h4 : ∀ x ∈ L, x.2.length = 4 := fun x hx => (hLv x hx).len
  rw [List.length_map] at hl ⊢
  have HCL := Hid.mk' (cloneM_any b L.length cb (flatM L) w (flatM_len h4) hLr (flatM_one hLv) hl)
  have hDl : D.length = L.length := by have := congrArg List.length hD1; simpa using this
  rw [← hD1]
  rw [hD3, ← hDl] at HCL
  rw [← hDl] at hl ⊢
  clear hLv hLr h4 hM hD1 hD3 hDl
  cases D with
  | nil =>
    have HN : Hid (∀ W (p : Option Addr) (c : Nat), _) := fun W p c => AnyF.slices_SortFunc_none Tryz.laysSF p c (.func (.func 65) #[] #[]) W
    have HN2 : Hid (∀ (W : World) (p : Option Addr) (c : Nat), Calls Tryz.prog 64 #[.slice p 0 c, .func (.func 65) #[] #[]] W fun e w' => e = .returned (.tuple #[]) ∧ w' = W) := HN.out
    have h0 : ([] : List MC).length = 0 := rfl
    rw [h0] at HCL ⊢
    clear HN
    go_enter Tryz.func46, Tryz.ntmps46
    go_wp2_with fail
    refine HCL.out.mono ?_
    rintro e w1 ⟨v1, rfl, hown, hb1⟩
    obtain ⟨a1, c1, rfl⟩ := own_form hown
    clear HCL hown
    go_wp2_with fail
    refine (HN2.out _ _ _).mono ?_
    rintro e w2 ⟨rfl, rfl⟩
    go_wp2
    go_ret
    exact ⟨_, [], rfl, List.Perm.refl _, List.Pairwise.nil, ⟨a1, c1, rfl, fun j x h => by simp at h⟩, hb1⟩
  | cons y0 D0 =>
    obtain ⟨D, hDD⟩ : ∃ D, y0 :: D0 = D := ⟨_, rfl⟩
    have hpos : 0 < D.length := by rw [← hDD]; simp
    rw [hDD] at hD2 HCL hl ⊢
    clear hDD
    have HD2 := Hid.mk' hD2
    have HS : Hid (∀ (g c : Nat) (W : World), W.ownsRow w.heap.size 43 5 (.slice (some ⟨g, 0, none⟩) D.length c) D.length (D.flatMap encMC) → Below w.heap.size w W → Calls Tryz.prog 64 #[.slice (some ⟨g, 0, none⟩) D.length c, .func (.func 65) #[] #[]] W fun e w' => e = .returned (.tuple #[]) ∧ ∃ n : List (List UInt8 × J), n.Perm (D.map fun y => y.x) ∧ (n.Pairwise fun x y => x.1 ≤ y.1) ∧ SM w' (.slice (some ⟨g, 0, none⟩) D.length c) n ∧ Below w.heap.size w w') := fun g c W ho hb => by
      have hlt := ho.lt g rfl
      have h := sortM_any D.toArray g c W w.heap.size (holds_mc ho) hlt.2 hlt.1 (by simpa using hl)
      rw [List.size_toArray] at h
      refine h.mono ?_
      rintro e w' ⟨rfl, d', hp, hs, hh, hb'⟩
      have hds : d'.size = D.length := by have := hp.length_eq; simpa using this
      refine ⟨rfl, d'.toList.map (fun y => y.x), hp.map _, List.pairwise_map.2 hs, ?_, hb.trans hb'⟩
      rw [← hds]
      exact sm_mc hh (fun y hy => (HD2.out y (hp.mem_iff.1 hy)).below (hb.trans hb'))
    clear hD2
    go_enter Tryz.func46, Tryz.ntmps46
    go_wp2_with fail
    refine HCL.out.mono ?_
    rintro e w1 ⟨v1, rfl, hown, hb1⟩
    obtain ⟨g, c1, rfl, -, -⟩ := hown.form hpos
    have HS1 := Hid.mk' (HS.out g c1 w1 hown hb1)
    clear HCL hown HS
    go_wp2_with fail
    refine HS1.out.mono ?_
    rintro e w2 ⟨rfl, n, hn1, hn2, hn3, hb2⟩
    have H1 := Hid.mk' hn1
    have H2 := Hid.mk' hn2
    have H3 := Hid.mk' hn3
    clear hn1 hn2 hn3 HS1
    go_wp2
    go_ret
    exact ⟨_, n, rfl, H1.out, H2.out, H3.out, hb2⟩
end Go.Proofs.YtjjoedkigjekcaaGreatDoor

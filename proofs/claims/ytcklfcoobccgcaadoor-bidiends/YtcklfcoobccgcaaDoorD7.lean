/-
  What is proved here: what bidi's Mixed and Name answer of a name, and the law's few.
-/
import Derived.Test.YtcklfcoobccgcaaDoorD4
import Derived.Test.YtcklfcoobccgcaaDoorR3
namespace Go.Proofs.YtcklfcoobccgcaaDoor
open Go.RowKit Go.Shelf

/-- the directions of a name's labels -/
def dirsN (l : List Rg) (nm : List (List Int)) : List (List Int) := nm.map (dirsM l)
theorem dirsN_len (l : List Rg) (nm : List (List Int)) : (dirsN l nm).length = nm.length := by simp [dirsN]
theorem dirsN_at {l : List Rg} {nm : List (List Int)} {i : Nat} (h : i < nm.length) : (dirsN l nm).getD i [] = dirsM l (nm.getD i []) := by
  simp [dirsN, List.getD, List.getElem?_eq_getElem h]
/-- what is asked of properties and of a name -/
structure AskedN (w : World) (a : Nat → Option Addr) (c : Nat → Nat) (t : Nat → List Rg) (na : Option Addr) (av : Nat → Option Addr) (cv : Nat → Nat) (nm : List (List Int)) : Prop where
  tab : Tab w (.slice (a 9) (t 9).length (c 9)) (t 9)
  ok : Ok (t 9)
  elems : ElemC w na nm.length (fun j => .slice (av j) (nm.getD j []).length (cv j))
  runes : ∀ j, j < nm.length → Runes w (.slice (av j) (nm.getD j []).length (cv j)) (nm.getD j [])
  len : nm.length ≤ 1000000
  lens : ∀ j, j < nm.length → (nm.getD j []).length ≤ 1000000
  dirs : ∀ j, j < nm.length → Dirs (dirsM (t 9) (nm.getD j []))
theorem AskedN.below {w w' : World} {a : Nat → Option Addr} {c : Nat → Nat} {t : Nat → List Rg} {na : Option Addr} {av : Nat → Option Addr} {cv : Nat → Nat} {nm : List (List Int)} (h : AskedN w a c t na av cv nm) (hb : Below w.heap.size w w') : AskedN w' a c t na av cv nm :=
  ⟨h.tab.below hb, h.ok, h.elems.below hb, fun j hj => (h.runes j hj).below hb, h.len, h.lens, h.dirs⟩
theorem AskedN.one {w : World} {a : Nat → Option Addr} {c : Nat → Nat} {t : Nat → List Rg} {na : Option Addr} {av : Nat → Option Addr} {cv : Nat → Nat} {nm : List (List Int)} (h : AskedN w a c t na av cv nm) {k : Nat} (hk : k < nm.length) : Asked w a c t (av k) (cv k) (nm.getD k []) :=
  ⟨h.tab, h.ok, h.runes k hk, h.lens k hk, h.dirs k hk⟩
set_option maxRecDepth 20000 in
set_option maxHeartbeats 2000000 in
theorem mixed1_any (bP : Nat) (a : Nat → Option Addr) (c : Nat → Nat) (t : Nat → List Rg) (va : Option Addr) (vcap : Nat) (l : List Int) (w : World) (hp : PB w bP a c t) (h : Asked w a c t va vcap l) :
    Calls Tryd.prog 38 #[.slice va l.length vcap, .pointer (some ⟨bP, 0, none⟩)] w fun e w' => e = .returned (.bool (rightM (dirsM (t 9) l))) ∧ Below w.heap.size w w' := by
  have e0 : w.cell? ⟨bP, 0, none⟩ = some (.slice (a 0) (t 0).length (c 0)) := hp 0 (by omega)
  have e1 : w.cell? ⟨bP, 1, none⟩ = some (.slice (a 1) (t 1).length (c 1)) := hp 1 (by omega)
  have e2 : w.cell? ⟨bP, 2, none⟩ = some (.slice (a 2) (t 2).length (c 2)) := hp 2 (by omega)
  have e3 : w.cell? ⟨bP, 3, none⟩ = some (.slice (a 3) (t 3).length (c 3)) := hp 3 (by omega)
  have e4 : w.cell? ⟨bP, 4, none⟩ = some (.slice (a 4) (t 4).length (c 4)) := hp 4 (by omega)
  have e5 : w.cell? ⟨bP, 5, none⟩ = some (.slice (a 5) (t 5).length (c 5)) := hp 5 (by omega)
  have e6 : w.cell? ⟨bP, 6, none⟩ = some (.slice (a 6) (t 6).length (c 6)) := hp 6 (by omega)
  have e7 : w.cell? ⟨bP, 7, none⟩ = some (.slice (a 7) (t 7).length (c 7)) := hp 7 (by omega)
  have e8 : w.cell? ⟨bP, 8, none⟩ = some (.slice (a 8) (t 8).length (c 8)) := hp 8 (by omega)
  have e9 : w.cell? ⟨bP, 9, none⟩ = some (.slice (a 9) (t 9).length (c 9)) := hp 9 (by omega)
  have e10 : w.cell? ⟨bP, 10, none⟩ = some (.slice (a 10) (t 10).length (c 10)) := hp 10 (by omega)
  have HR := Hid.mk' (rightB_any a c t va vcap l w h)
  unfold PV at HR
  generalize rightM (dirsM (t 9) l) = res at *
  clear hp h
  go_enter Tryd.func38, Tryd.ntmps38
  go_wp2_with fail
  refine HR.out.mono ?_
  rintro e w1 ⟨rfl, hb⟩
  go_wp2
  go_ret
  exact ⟨rfl, hb⟩
set_option maxRecDepth 20000 in
set_option maxHeartbeats 2000000 in
theorem name1_any (bP : Nat) (a : Nat → Option Addr) (c : Nat → Nat) (t : Nat → List Rg) (va : Option Addr) (vcap : Nat) (l : List Int) (w : World) (p : Nat → Addr) (hg : Gl p w) (hp : PB w bP a c t) (h : Asked w a c t va vcap l) :
    Calls Tryd.prog 36 #[.slice va l.length vcap, .pointer (some ⟨bP, 0, none⟩)] w fun e w' => e = .returned (.bool (decide ((brkM (dirsM (t 9) l)).1 ≠ 0))) ∧ Below w.heap.size w w' := by
  have e0 : w.cell? ⟨bP, 0, none⟩ = some (.slice (a 0) (t 0).length (c 0)) := hp 0 (by omega)
  have e1 : w.cell? ⟨bP, 1, none⟩ = some (.slice (a 1) (t 1).length (c 1)) := hp 1 (by omega)
  have e2 : w.cell? ⟨bP, 2, none⟩ = some (.slice (a 2) (t 2).length (c 2)) := hp 2 (by omega)
  have e3 : w.cell? ⟨bP, 3, none⟩ = some (.slice (a 3) (t 3).length (c 3)) := hp 3 (by omega)
  have e4 : w.cell? ⟨bP, 4, none⟩ = some (.slice (a 4) (t 4).length (c 4)) := hp 4 (by omega)
  have e5 : w.cell? ⟨bP, 5, none⟩ = some (.slice (a 5) (t 5).length (c 5)) := hp 5 (by omega)
  have e6 : w.cell? ⟨bP, 6, none⟩ = some (.slice (a 6) (t 6).length (c 6)) := hp 6 (by omega)
  have e7 : w.cell? ⟨bP, 7, none⟩ = some (.slice (a 7) (t 7).length (c 7)) := hp 7 (by omega)
  have e8 : w.cell? ⟨bP, 8, none⟩ = some (.slice (a 8) (t 8).length (c 8)) := hp 8 (by omega)
  have e9 : w.cell? ⟨bP, 9, none⟩ = some (.slice (a 9) (t 9).length (c 9)) := hp 9 (by omega)
  have e10 : w.cell? ⟨bP, 10, none⟩ = some (.slice (a 10) (t 10).length (c 10)) := hp 10 (by omega)
  have HR := Hid.mk' (label_any a c t va vcap l w p hg h)
  unfold PV at HR
  generalize brkM (dirsM (t 9) l) = x at *
  clear hp h hg
  go_enter Tryd.func36, Tryd.ntmps36
  go_wp2_with fail
  refine HR.out.mono ?_
  rintro e w1 ⟨fv, rfl, hs, hb⟩
  rcases hs with ⟨hz, rfl⟩ | ⟨hz, b, -, rfl, -, -⟩
  · have HZ : Hid (decide (x.1 ≠ 0) = false) := decide_eq_false (fun q => q hz)
    clear hz
    go_wp2
    go_ret
    exact ⟨ret_bool HZ.out.symm, hb⟩
  · have HZ : Hid (decide (x.1 ≠ 0) = true) := decide_eq_true hz
    clear hz
    go_wp2
    go_ret
    exact ⟨ret_bool HZ.out.symm, hb⟩
set_option maxRecDepth 20000 in
set_option maxHeartbeats 2000000 in
theorem mixed_any (a : Nat → Option Addr) (c : Nat → Nat) (t : Nat → List Rg) (na : Option Addr) (ncap : Nat) (av : Nat → Option Addr) (cv : Nat → Nat) (nm : List (List Int)) (w : World) (h : AskedN w a c t na av cv nm) :
    Calls Tryd.prog 18 #[PV a c t, .slice na nm.length ncap] w fun e w' => e = .returned (.bool (mixM (dirsN (t 9) nm))) ∧ Below w.heap.size w w' := by
  have hF : ∀ args w, (callFunc 38 args).run Tryd.prog w = .ok (.enter 38 args) w := enters_of Tryd.func38 (by kernel_rfl) rfl
  obtain ⟨W0, hW0, hsz0, hb0, hp⟩ := prop_box w a c t
  have HC := Hid.mk' (containsL_any 38 #[.pointer (some ⟨w.heap.size, 0, none⟩)] (fun k => rightM (dirsM (t 9) (nm.getD k []))) (fun _ W => Below W0.heap.size W0 W) na nm.length ncap av (fun j => (nm.getD j []).length) cv W0 (by have := h.len; omega) (Below.refl _ _) (fun k W hb => (h.elems.below hb0).below hb) hF (fun k W hk hb => by
    refine (mixed1_any w.heap.size a c t (av k) (cv k) (nm.getD k []) W (hp.below hb) (((h.below hb0).below hb).one hk)).mono ?_
    rintro e w' ⟨rfl, hb2⟩
    exact ⟨rfl, hb.trans (hb2.mono hb.size)⟩))
  have hM : anyN nm.length (fun k => rightM (dirsM (t 9) (nm.getD k []))) = mixM (dirsN (t 9) nm) := by
    unfold mixM
    rw [dirsN_len]
    exact anyN_congr (fun i hi => by rw [dirsN_at hi])
  rw [hM] at HC
  have HB := Hid.mk' hb0
  unfold PV
  generalize mixM (dirsN (t 9) nm) = res at *
  clear h hp hb0 hF hM
  go_enter Tryd.func18, Tryd.ntmps18
  go_wp2_with fail
  refine HC.out.mono ?_
  rintro e w1 ⟨rfl, -, hb⟩
  have HB1 := Hid.mk' (HB.out.trans (hb.mono HB.out.size))
  go_wp2
  go_ret
  exact ⟨rfl, HB1.out⟩
set_option maxRecDepth 20000 in
set_option maxHeartbeats 4000000 in
theorem name_any (a : Nat → Option Addr) (c : Nat → Nat) (t : Nat → List Rg) (na : Option Addr) (ncap : Nat) (av : Nat → Option Addr) (cv : Nat → Nat) (nm : List (List Int)) (w : World) (p : Nat → Addr) (hg : Gl p w) (h : AskedN w a c t na av cv nm) :
    Calls Tryd.prog 17 #[PV a c t, .slice na nm.length ncap] w fun e w' => ∃ fv, e = .returned fv ∧ Says w' fv w.heap.size p (nameM (dirsN (t 9) nm)) ∧ Below w.heap.size w w' := by
  have hF : ∀ args w, (callFunc 36 args).run Tryd.prog w = .ok (.enter 36 args) w := enters_of Tryd.func36 (by kernel_rfl) rfl
  obtain ⟨W0, hW0, hsz0, hb0, hp⟩ := prop_box w a c t
  have e0 : W0.cell? ⟨w.heap.size, 0, none⟩ = some (.slice (a 0) (t 0).length (c 0)) := hp 0 (by omega)
  have e1 : W0.cell? ⟨w.heap.size, 1, none⟩ = some (.slice (a 1) (t 1).length (c 1)) := hp 1 (by omega)
  have e2 : W0.cell? ⟨w.heap.size, 2, none⟩ = some (.slice (a 2) (t 2).length (c 2)) := hp 2 (by omega)
  have e3 : W0.cell? ⟨w.heap.size, 3, none⟩ = some (.slice (a 3) (t 3).length (c 3)) := hp 3 (by omega)
  have e4 : W0.cell? ⟨w.heap.size, 4, none⟩ = some (.slice (a 4) (t 4).length (c 4)) := hp 4 (by omega)
  have e5 : W0.cell? ⟨w.heap.size, 5, none⟩ = some (.slice (a 5) (t 5).length (c 5)) := hp 5 (by omega)
  have e6 : W0.cell? ⟨w.heap.size, 6, none⟩ = some (.slice (a 6) (t 6).length (c 6)) := hp 6 (by omega)
  have e7 : W0.cell? ⟨w.heap.size, 7, none⟩ = some (.slice (a 7) (t 7).length (c 7)) := hp 7 (by omega)
  have e8 : W0.cell? ⟨w.heap.size, 8, none⟩ = some (.slice (a 8) (t 8).length (c 8)) := hp 8 (by omega)
  have e9 : W0.cell? ⟨w.heap.size, 9, none⟩ = some (.slice (a 9) (t 9).length (c 9)) := hp 9 (by omega)
  have e10 : W0.cell? ⟨w.heap.size, 10, none⟩ = some (.slice (a 10) (t 10).length (c 10)) := hp 10 (by omega)
  have HM := Hid.mk' (mixed_any a c t na ncap av cv nm W0 (h.below hb0))
  have HC : Hid (∀ W', Below W0.heap.size W0 W' → _) := fun W' hb' => indexL_any 36 #[.pointer (some ⟨w.heap.size, 0, none⟩)] (fun k => decide ((brkM (dirsM (t 9) (nm.getD k []))).1 ≠ 0)) (fun _ W => Below W0.heap.size W0 W) na nm.length ncap av (fun j => (nm.getD j []).length) cv W' (by have := h.len; omega) hb' (fun k W hb => (h.elems.below hb0).below hb) hF (fun k W hk hb => by
    refine (name1_any w.heap.size a c t (av k) (cv k) (nm.getD k []) W p ((hg.below hb0).below hb) (hp.below hb) (((h.below hb0).below hb).one hk)).mono ?_
    rintro e w' ⟨rfl, hb2⟩
    exact ⟨rfl, hb.trans (hb2.mono hb.size)⟩)
  have hI : idxN nm.length (fun k => decide ((brkM (dirsM (t 9) (nm.getD k []))).1 ≠ 0)) = badM (dirsN (t 9) nm) := by
    unfold badM
    rw [dirsN_len]
    exact idxN_congr (fun i hi => by rw [dirsN_at hi])
  rw [hI] at HC
  have HG : Hid (∀ W, Below w.heap.size w W → W.cell? ⟨0, 0, none⟩ = some (.iface 117 (.pointer (some (p 12))))) := fun W hb => (hg.below hb).g12
  have HB := Hid.mk' hb0
  have H1 : Hid (mixM (dirsN (t 9) nm) = false → nameM (dirsN (t 9) nm) = (0, 0)) := name_unmixed
  have H2 : Hid (mixM (dirsN (t 9) nm) = true → nameM (dirsN (t 9) nm) = if 0 ≤ badM (dirsN (t 9) nm) then ((badM (dirsN (t 9) nm)).toNat, 12) else (0, 0)) := fun hm => by
    unfold nameM
    by_cases q : 0 ≤ badM (dirsN (t 9) nm)
    · rw [if_pos ⟨hm, q⟩, if_pos q]
    · rw [if_neg (fun z => q z.2), if_neg q]
  unfold PV at HM ⊢
  generalize nameM (dirsN (t 9) nm) = res at *
  generalize badM (dirsN (t 9) nm) = x at *
  clear h hp hb0 hF hI hg
  cases hm : mixM (dirsN (t 9) nm)
  · rw [hm] at HM
    have hres := H1.out hm
    subst hres
    clear H1 H2 hm HC
    go_enter Tryd.func17, Tryd.ntmps17
    go_wp2_with fail
    refine HM.out.mono ?_
    rintro e w1 ⟨rfl, hb⟩
    have HB1 := Hid.mk' (HB.out.trans (hb.mono HB.out.size))
    clear HM hb e0 e1 e2 e3 e4 e5 e6 e7 e8 e9 e10
    go_wp2
    go_ret
    exact ⟨_, rfl, .inl ⟨rfl, rfl⟩, HB1.out⟩
  · rw [hm] at HM
    have H3 := Hid.mk' (H2.out hm)
    clear H1 H2 hm
    go_enter Tryd.func17, Tryd.ntmps17
    go_wp2_with fail
    refine HM.out.mono ?_
    rintro e w1 ⟨rfl, hb⟩
    have HC1 := Hid.mk' (HC.out w1 hb)
    clear HM HC hb e0 e1 e2 e3 e4 e5 e6 e7 e8 e9 e10
    go_wp2_with fail
    refine HC1.out.mono ?_
    rintro e w2 ⟨rfl, -, hb2⟩
    have hB2 := HB.out.trans (hb2.mono HB.out.size)
    clear HC1 hb2
    by_cases hx : x < 0
    · have hd : decide (x < 0) = true := decide_eq_true hx
      have hres := H3.out.trans (if_neg (by omega))
      subst hres
      have HB2 := Hid.mk' hB2
      clear H3 hx
      go_wp2
      go_ret
      exact ⟨_, rfl, .inl ⟨rfl, rfl⟩, HB2.out⟩
    · have hd : decide (x < 0) = false := decide_eq_false hx
      have hres := H3.out.trans (if_pos (by omega))
      subst hres
      have g12 := HG.out w2 hB2
      have HB2 := Hid.mk' hB2
      have HX : Hid (((x.toNat : Nat) : Int) = x) := by show _ = _; omega
      clear H3 hx hB2
      go_wp2
      go_ret
      refine ⟨_, rfl, .inr ⟨by simp, ?_⟩, HB2.out.alloc HB2.out.size _⟩
      exact (flt_new HB2.out.size _ _).weaken (Nat.le_refl _) HX.out.symm
/-- are there few labels, of few runes? -/
def fewM (nm : List (List Int)) : Bool := decide (nm.length ≤ 8 ∧ ∀ i, i < nm.length → (nm.getD i []).length ≤ 16)
theorem fewM_true {nm : List (List Int)} (h : fewM nm = true) : nm.length ≤ 8 ∧ ∀ i, i < nm.length → (nm.getD i []).length ≤ 16 := of_decide_eq_true h
set_option maxHeartbeats 2000000 in
theorem few_any (na : Option Addr) (ncap : Nat) (av : Nat → Option Addr) (cv : Nat → Nat) (nm : List (List Int)) (w : World) (h : ElemC w na nm.length (fun j => .slice (av j) (nm.getD j []).length (cv j))) :
    Calls Tryd.prog 15 #[.slice na nm.length ncap] w fun e w' => e = .returned (.bool (fewM nm)) ∧ w = w' := by
  have H0 : Hid (8 < nm.length → fewM nm = false) := fun g => decide_eq_false (fun q => by have := q.1; omega)
  have H1 : Hid (∀ k, k < nm.length → 16 < (nm.getD k []).length → fewM nm = false) := fun k hk g => decide_eq_false (fun q => by have := q.2 k hk; omega)
  have H2 : Hid (nm.length ≤ 8 → (∀ k, k < nm.length → (nm.getD k []).length ≤ 16) → fewM nm = true) := fun g q => decide_eq_true ⟨g, q⟩
  have HE := Hid.mk' h
  generalize fewM nm = res at *
  clear h
  by_cases h8 : 8 < nm.length
  · have hd : decide ((8 : Int) < (nm.length : Int)) = true := decide_eq_true (by omega)
    have hd' : decide (8 < nm.length) = true := decide_eq_true h8
    have HR := Hid.mk' (H0.out h8)
    clear H0 H1 H2 h8
    go_enter Tryd.func15, Tryd.ntmps15
    go_wp2
    go_ret
    exact ⟨ret_bool HR.out.symm, rfl⟩
  · have hd : decide ((8 : Int) < (nm.length : Int)) = false := decide_eq_false (by omega)
    have hd' : decide (8 < nm.length) = false := decide_eq_false h8
    have H2' := Hid.mk' (H2.out (by omega))
    clear H0 H2
    go_enter Tryd.func15, Tryd.ntmps15
    go_wp2
    go_loop [3] (fun x => ∃ k : Nat, k ≤ nm.length ∧ x = .int .i64 k ∧ Hid (∀ j, j < k → (nm.getD j []).length ≤ 16)) (fun x => nm.length - (intOf x).toNat)
    case atStart => exact ⟨0, Nat.zero_le _, rfl, fun j hj => by omega⟩
    case round =>
      obtain ⟨k, hk, rfl, HA⟩ := hrel
      by_cases hlt : k < nm.length
      · obtain ⟨b, off, rfl, ck0⟩ := HE.out k hlt
        have ck : w.cell? ⟨b, off + k, none⟩ = some (.slice (av k) (nm.getD k []).length (cv k)) := ck0
        have H1k := Hid.mk' (H1.out k hlt)
        have HX : Hid ((nm.getD k []).length ≤ 16 → ∀ j, j < k + 1 → (nm.getD j []).length ≤ 16) := fun e j hj => by
          rcases Nat.lt_or_ge j k with q | q
          · exact HA.out j q
          · obtain rfl : j = k := by omega
            exact e
        have hklz : (k : Int) < (nm.length : Int) := by omega
        generalize (nm.getD k []).length = q at *
        clear ck0 H1 H2' HE
        by_cases h16 : 16 < q
        · have hq : decide ((16 : Int) < (q : Int)) = true := decide_eq_true (by omega)
          have hq' : decide (16 < q) = true := decide_eq_true h16
          have HR := Hid.mk' (H1k.out h16)
          clear H1k HX h16
          go_wp2
          go_ret
          exact ⟨ret_bool HR.out.symm, rfl⟩
        · have hq : decide ((16 : Int) < (q : Int)) = false := decide_eq_false (by omega)
          have hq' : decide (16 < q) = false := decide_eq_false h16
          have HA1 := Hid.mk' (HX.out (by omega))
          clear H1k HX h16
          go_wp2
          go_round
          case rel => exact ⟨k + 1, by omega, by go_num, HA1⟩
          case measure => simp [intOf]; omega
      · obtain rfl : k = nm.length := by omega
        have HR := Hid.mk' (H2'.out HA.out)
        go_wp2
        go_ret
        exact ⟨ret_bool HR.out.symm, rfl⟩
end Go.Proofs.YtcklfcoobccgcaaDoor

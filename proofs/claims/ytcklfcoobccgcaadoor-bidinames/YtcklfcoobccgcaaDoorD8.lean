/-
  What is proved here: what the reference's Name of layer 9 answers; the law's Right of layer 7.
-/
import Derived.Test.YtcklfcoobccgcaaDoorD6
import Derived.Test.YtcklfcoobccgcaaDoorD7
import Derived.Test.YtcklfcoobccgcaaDoorL6
namespace Go.Proofs.YtcklfcoobccgcaaDoor
open Go.RowKit Go.Shelf

/-- is one of the first k labels of the right? -/
def mixF (dn : List (List Int)) (k : Nat) : Bool := (List.range k).any fun i => rightM (dn.getD i [])
theorem mixF_succ (dn : List (List Int)) (k : Nat) : mixF dn (k + 1) = (mixF dn k || rightM (dn.getD k [])) := by
  simp [mixF, List.range_succ, List.any_append]
theorem mixF_all (dn : List (List Int)) : mixF dn dn.length = mixM dn := by
  unfold mixF mixM
  rw [Bool.eq_iff_iff, List.any_eq_true, anyN_iff]
  constructor
  · rintro ⟨k, hk, h⟩; exact ⟨k, by simpa using hk, h⟩
  · rintro ⟨k, hk, h⟩; exact ⟨k, by simpa using hk, h⟩
theorem ret_twoN {a b : Nat × Nat} (h : a = b) : Ending.returned (.tuple #[.int .i64 b.1, .int .i64 b.2]) = .returned (.tuple #[.int .i64 a.1, .int .i64 a.2]) := by rw [h]
set_option maxRecDepth 20000 in
set_option maxHeartbeats 8000000 in
theorem refName9_any (a : Nat → Option Addr) (c : Nat → Nat) (t : Nat → List Rg) (na : Option Addr) (ncap : Nat) (av : Nat → Option Addr) (cv : Nat → Nat) (nm : List (List Int)) (w : World) (h : AskedN w a c t na av cv nm) :
    Calls Tryd.prog 16 #[PV a c t, .slice na nm.length ncap] w fun e w' => e = .returned (.tuple #[.int .i64 (nameM (dirsN (t 9) nm)).1, .int .i64 (nameM (dirsN (t 9) nm)).2]) ∧ Below w.heap.size w w' := by
  obtain ⟨W0, hW0, hsz0, hb0, hp⟩ := prop_box w a c t
  have hlen := dirsN_len (t 9) nm
  have HV : Hid (∀ W, Below W0.heap.size W0 W → ∀ j, j < nm.length → ∃ b off, na = some ⟨b, off, none⟩ ∧ W.cell? ⟨b, off + j, none⟩ = some (.slice (av j) (nm.getD j []).length (cv j))) := fun W hb j hj => (h.elems.below hb0).below hb j hj
  have HP : Hid (∀ W, Below W0.heap.size W0 W → (W.cell? ⟨w.heap.size, 0, none⟩ = some (.slice (a 0) (t 0).length (c 0)) ∧ W.cell? ⟨w.heap.size, 1, none⟩ = some (.slice (a 1) (t 1).length (c 1)) ∧ W.cell? ⟨w.heap.size, 2, none⟩ = some (.slice (a 2) (t 2).length (c 2)) ∧ W.cell? ⟨w.heap.size, 3, none⟩ = some (.slice (a 3) (t 3).length (c 3)) ∧ W.cell? ⟨w.heap.size, 4, none⟩ = some (.slice (a 4) (t 4).length (c 4)) ∧ W.cell? ⟨w.heap.size, 5, none⟩ = some (.slice (a 5) (t 5).length (c 5)) ∧ W.cell? ⟨w.heap.size, 6, none⟩ = some (.slice (a 6) (t 6).length (c 6)) ∧ W.cell? ⟨w.heap.size, 7, none⟩ = some (.slice (a 7) (t 7).length (c 7)) ∧ W.cell? ⟨w.heap.size, 8, none⟩ = some (.slice (a 8) (t 8).length (c 8)) ∧ W.cell? ⟨w.heap.size, 9, none⟩ = some (.slice (a 9) (t 9).length (c 9)) ∧ W.cell? ⟨w.heap.size, 10, none⟩ = some (.slice (a 10) (t 10).length (c 10)))) := fun W hb => by
    have q := hp.below hb
    exact ⟨q 0 (by omega), q 1 (by omega), q 2 (by omega), q 3 (by omega), q 4 (by omega), q 5 (by omega), q 6 (by omega), q 7 (by omega), q 8 (by omega), q 9 (by omega), q 10 (by omega)⟩
  have HT : Hid (∀ W W', Below W0.heap.size W0 W → Below W.heap.size W W' → Below W0.heap.size W0 W') := fun W W' h1 h2 => h1.trans (h2.mono h1.size)
  have HB : Hid (∀ W, Below W0.heap.size W0 W → Below w.heap.size w W) := fun W hb => hb0.trans (hb.mono hb0.size)
  have HR9 : Hid (∀ W k, Below W0.heap.size W0 W → k < nm.length → (Calls Tryd.prog 14 #[PV a c t, .slice (av k) (nm.getD k []).length (cv k)] W fun e w' => e = .returned (.bool (rightM ((dirsN (t 9) nm).getD k []))) ∧ Below W.heap.size W w')) := fun W k hb hk => by
    rw [dirsN_at hk]
    exact refRight9_any a c t (av k) (cv k) _ W (((h.below hb0).below hb).one hk)
  have HBR : Hid (∀ W k, Below W0.heap.size W0 W → k < nm.length → (Calls Tryd.prog 10 #[PV a c t, .slice (av k) (nm.getD k []).length (cv k)] W fun e w' => e = .returned (.tuple #[.int .i64 (brkM ((dirsN (t 9) nm).getD k [])).1, .int .i64 (brkM ((dirsN (t 9) nm).getD k [])).2]) ∧ Below W.heap.size W w')) := fun W k hb hk => by
    rw [dirsN_at hk]
    exact refBroken_any a c t (av k) (cv k) _ W (((h.below hb0).below hb).one hk)
  have hll := h.len
  unfold PV at HR9 HBR ⊢
  generalize dirsN (t 9) nm = dn at *
  have H1 : Hid (mixF dn nm.length = false → nameM dn = (0, 0)) := fun q => name_unmixed (by rw [← mixF_all, hlen]; exact q)
  have H2 : Hid (mixF dn nm.length = true → ∀ k, k < nm.length → (∀ i, i < k → (brkM (dn.getD i [])).1 = 0) → (brkM (dn.getD k [])).1 ≠ 0 → nameM dn = (k, 12)) := fun q k hk q1 q2 => name_bad (by rw [← mixF_all, hlen]; exact q) (by omega) q1 q2
  have H3 : Hid ((∀ i, i < nm.length → (brkM (dn.getD i [])).1 = 0) → nameM dn = (0, 0)) := fun q => name_good (fun i hi => q i (by omega))
  generalize nameM dn = res at *
  clear h hp hb0 hlen
  go_enter Tryd.func16, Tryd.ntmps16
  go_wp2
  go_loopw [6, 7] (fun xm x wr => ∃ k : Nat, k ≤ nm.length ∧ x = .int .i64 k ∧ xm = .bool (mixF dn k) ∧ Below W0.heap.size W0 wr) (fun _ x _ => nm.length - (intOf x).toNat)
  case atStart => exact ⟨0, Nat.zero_le _, rfl, rfl, Below.refl _ _⟩
  case round =>
    obtain ⟨k, hk, rfl, rfl, hb⟩ := hrel
    by_cases hlt : k < nm.length
    · obtain ⟨b, off, rfl, -⟩ := HV.out wr hb k hlt
      have HSk : Hid (∀ W, Below W0.heap.size W0 W → (W.cell? ⟨w.heap.size, 0, none⟩ = some (.slice (a 0) (t 0).length (c 0)) ∧ W.cell? ⟨w.heap.size, 1, none⟩ = some (.slice (a 1) (t 1).length (c 1)) ∧ W.cell? ⟨w.heap.size, 2, none⟩ = some (.slice (a 2) (t 2).length (c 2)) ∧ W.cell? ⟨w.heap.size, 3, none⟩ = some (.slice (a 3) (t 3).length (c 3)) ∧ W.cell? ⟨w.heap.size, 4, none⟩ = some (.slice (a 4) (t 4).length (c 4)) ∧ W.cell? ⟨w.heap.size, 5, none⟩ = some (.slice (a 5) (t 5).length (c 5)) ∧ W.cell? ⟨w.heap.size, 6, none⟩ = some (.slice (a 6) (t 6).length (c 6)) ∧ W.cell? ⟨w.heap.size, 7, none⟩ = some (.slice (a 7) (t 7).length (c 7)) ∧ W.cell? ⟨w.heap.size, 8, none⟩ = some (.slice (a 8) (t 8).length (c 8)) ∧ W.cell? ⟨w.heap.size, 9, none⟩ = some (.slice (a 9) (t 9).length (c 9)) ∧ W.cell? ⟨w.heap.size, 10, none⟩ = some (.slice (a 10) (t 10).length (c 10))) ∧ W.cell? ⟨b, off + k, none⟩ = some (.slice (av k) (nm.getD k []).length (cv k))) := fun W hb => by
        obtain ⟨b', off', e, q⟩ := HV.out W hb k hlt
        injection e with e
        injection e with e1 e2
        subst e1 e2
        exact ⟨HP.out W hb, q⟩
      have HDk : Hid (∀ W, Below W0.heap.size W0 W → _) := fun W hb => HR9.out W k hb hlt
      have HS := Hid.mk' (mixF_succ dn k)
      have hbd := hb.drew
      have hklz : (k : Int) < (nm.length : Int) := by omega
      generalize rightM (dn.getD k []) = d at *
      generalize mixF dn k = m at *
      generalize av k = avk at *
      generalize cv k = cvk at *
      generalize (nm.getD k []).length = nk at *
      clear HV HR9 HBR H1 H2 H3
      go_wp2
      cases m
      · skip
        go_region_held3 (fun W' => (W'.cell? ⟨w.heap.size, 0, none⟩ = some (.slice (a 0) (t 0).length (c 0)) ∧ W'.cell? ⟨w.heap.size, 1, none⟩ = some (.slice (a 1) (t 1).length (c 1)) ∧ W'.cell? ⟨w.heap.size, 2, none⟩ = some (.slice (a 2) (t 2).length (c 2)) ∧ W'.cell? ⟨w.heap.size, 3, none⟩ = some (.slice (a 3) (t 3).length (c 3)) ∧ W'.cell? ⟨w.heap.size, 4, none⟩ = some (.slice (a 4) (t 4).length (c 4)) ∧ W'.cell? ⟨w.heap.size, 5, none⟩ = some (.slice (a 5) (t 5).length (c 5)) ∧ W'.cell? ⟨w.heap.size, 6, none⟩ = some (.slice (a 6) (t 6).length (c 6)) ∧ W'.cell? ⟨w.heap.size, 7, none⟩ = some (.slice (a 7) (t 7).length (c 7)) ∧ W'.cell? ⟨w.heap.size, 8, none⟩ = some (.slice (a 8) (t 8).length (c 8)) ∧ W'.cell? ⟨w.heap.size, 9, none⟩ = some (.slice (a 9) (t 9).length (c 9)) ∧ W'.cell? ⟨w.heap.size, 10, none⟩ = some (.slice (a 10) (t 10).length (c 10))) ∧ W'.cell? ⟨b, off + k, none⟩ = some (.slice avk nk cvk)) (exact HSk.out _ (by assumption)) (first
          | (go_at_call 14; refine (HDk.out _ (by assumption)).mono ?_; rintro e wA ⟨rfl, hbA⟩; have hzA := HT.out _ _ (by assumption) hbA))
        have HS1 : Hid (mixF dn (k + 1) = d) := HS.out
        clear HS HSk HDk
        go_wp2
        go_roundw
        case rel => exact ⟨k + 1, by omega, by go_num, by rw [HS1.out], hzA⟩
        case measure => simp [intOf]; omega
      · go_region
        have HS1 : Hid (mixF dn (k + 1) = true) := HS.out
        clear HS HSk HDk
        go_wp2
        go_roundw
        case rel => exact ⟨k + 1, by omega, by go_num, by rw [HS1.out], hbd⟩
        case measure => simp [intOf]; omega
    · obtain rfl : k = nm.length := by omega
      cases hm : mixF dn nm.length
      · have HR := Hid.mk' (H1.out hm)
        have HBA := Hid.mk' (HB.out _ hb)
        rw [hm] at *
        clear H1 H2 H3 hm hlt hk HV HP HT HR9 HBR
        go_wp2
        go_loopw [8] (fun x wr2 => x = .int .i64 0 ∧ wr = wr2) (fun _ _ => 0)
        case atStart => exact ⟨rfl, rfl⟩
        case round =>
          obtain ⟨rfl, rfl⟩ := hrel
          go_wp2
          go_ret2
          exact ⟨ret_twoN (b := (0, 0)) HR.out, HBA.out⟩
      · have HX := Hid.mk' (H2.out hm)
        clear H1 H2 hm hlt hk HR9
        go_wp2
        go_loopw [8] (fun x wr2 => ∃ k : Nat, k ≤ nm.length ∧ x = .int .i64 k ∧ Hid (∀ j, j < k → (brkM (dn.getD j [])).1 = 0) ∧ Below W0.heap.size W0 wr2) (fun x _ => nm.length - (intOf x).toNat)
        case atStart => exact ⟨0, Nat.zero_le _, rfl, fun j hj => by omega, hb⟩
        case round =>
          clear hb
          obtain ⟨k, hk, rfl, HA, hb⟩ := hrel
          by_cases hlt : k < nm.length
          · obtain ⟨b, off, rfl, -⟩ := HV.out _ hb k hlt
            have HSk : Hid (∀ W, Below W0.heap.size W0 W → (W.cell? ⟨w.heap.size, 0, none⟩ = some (.slice (a 0) (t 0).length (c 0)) ∧ W.cell? ⟨w.heap.size, 1, none⟩ = some (.slice (a 1) (t 1).length (c 1)) ∧ W.cell? ⟨w.heap.size, 2, none⟩ = some (.slice (a 2) (t 2).length (c 2)) ∧ W.cell? ⟨w.heap.size, 3, none⟩ = some (.slice (a 3) (t 3).length (c 3)) ∧ W.cell? ⟨w.heap.size, 4, none⟩ = some (.slice (a 4) (t 4).length (c 4)) ∧ W.cell? ⟨w.heap.size, 5, none⟩ = some (.slice (a 5) (t 5).length (c 5)) ∧ W.cell? ⟨w.heap.size, 6, none⟩ = some (.slice (a 6) (t 6).length (c 6)) ∧ W.cell? ⟨w.heap.size, 7, none⟩ = some (.slice (a 7) (t 7).length (c 7)) ∧ W.cell? ⟨w.heap.size, 8, none⟩ = some (.slice (a 8) (t 8).length (c 8)) ∧ W.cell? ⟨w.heap.size, 9, none⟩ = some (.slice (a 9) (t 9).length (c 9)) ∧ W.cell? ⟨w.heap.size, 10, none⟩ = some (.slice (a 10) (t 10).length (c 10))) ∧ W.cell? ⟨b, off + k, none⟩ = some (.slice (av k) (nm.getD k []).length (cv k))) := fun W hb => by
              obtain ⟨b', off', e, q⟩ := HV.out W hb k hlt
              injection e with e
              injection e with e1 e2
              subst e1 e2
              exact ⟨HP.out W hb, q⟩
            have HDk : Hid (∀ W, Below W0.heap.size W0 W → _) := fun W hb => HBR.out W k hb hlt
            have HY := Hid.mk' (HX.out k hlt HA.out)
            have HZ : Hid ((brkM (dn.getD k [])).1 = 0 → ∀ j, j < k + 1 → (brkM (dn.getD j [])).1 = 0) := fun e j hj => by
              rcases Nat.lt_or_ge j k with q | q
              · exact HA.out j q
              · obtain rfl : j = k := by omega
                exact e
            have hx0 := (brk_range (dn.getD k [])).1
            have hbd := hb.drew
            have hklz : (k : Int) < (nm.length : Int) := by omega
            generalize brkM (dn.getD k []) = x at *
            obtain ⟨x1, x2⟩ := x
            simp only [] at HDk HY HZ hx0
            generalize av k = avk at *
            generalize cv k = cvk at *
            generalize (nm.getD k []).length = nk at *
            clear HV HBR HX H3 HA
            go_wp2
            go_region_held3 (fun W' => (W'.cell? ⟨w.heap.size, 0, none⟩ = some (.slice (a 0) (t 0).length (c 0)) ∧ W'.cell? ⟨w.heap.size, 1, none⟩ = some (.slice (a 1) (t 1).length (c 1)) ∧ W'.cell? ⟨w.heap.size, 2, none⟩ = some (.slice (a 2) (t 2).length (c 2)) ∧ W'.cell? ⟨w.heap.size, 3, none⟩ = some (.slice (a 3) (t 3).length (c 3)) ∧ W'.cell? ⟨w.heap.size, 4, none⟩ = some (.slice (a 4) (t 4).length (c 4)) ∧ W'.cell? ⟨w.heap.size, 5, none⟩ = some (.slice (a 5) (t 5).length (c 5)) ∧ W'.cell? ⟨w.heap.size, 6, none⟩ = some (.slice (a 6) (t 6).length (c 6)) ∧ W'.cell? ⟨w.heap.size, 7, none⟩ = some (.slice (a 7) (t 7).length (c 7)) ∧ W'.cell? ⟨w.heap.size, 8, none⟩ = some (.slice (a 8) (t 8).length (c 8)) ∧ W'.cell? ⟨w.heap.size, 9, none⟩ = some (.slice (a 9) (t 9).length (c 9)) ∧ W'.cell? ⟨w.heap.size, 10, none⟩ = some (.slice (a 10) (t 10).length (c 10))) ∧ W'.cell? ⟨b, off + k, none⟩ = some (.slice avk nk cvk)) (exact HSk.out _ (by assumption)) (first
              | (go_at_call 10; refine (HDk.out _ (by assumption)).mono ?_; rintro e wA ⟨rfl, hbA⟩; have hzA := HT.out _ _ (by assumption) hbA))
            by_cases hz : x1 = 0
            · have HA1 := Hid.mk' (HZ.out hz)
              subst hz
              clear HZ HY HSk HDk
              go_wp2
              go_roundw
              case rel => exact ⟨k + 1, by omega, by go_num, HA1, hzA⟩
              case measure => simp [intOf]; omega
            · have HR := Hid.mk' (HY.out hz)
              have hd : decide (0 < x1) = true := decide_eq_true (by omega)
              have HBA := Hid.mk' (HB.out _ hzA)
              clear HZ HY HSk HDk hz hx0
              go_wp2
              go_ret2
              exact ⟨ret_twoN (b := (k, 12)) HR.out, HBA.out⟩
          · obtain rfl : k = nm.length := by omega
            have HR := Hid.mk' (H3.out HA.out)
            have HBA := Hid.mk' (HB.out _ hb)
            clear HX H3 HA
            go_wp2
            go_ret2
            exact ⟨ret_twoN (b := (0, 0)) HR.out, HBA.out⟩
set_option maxRecDepth 20000 in
set_option maxHeartbeats 4000000 in
theorem right7L_any (a : Nat → Option Addr) (c : Nat → Nat) (t : Nat → List Rg) (w : World) (hT : PT w a c t) (hl : ∀ i, i < 11 → (t i).length ≤ 2147483648) :
    Calls Tryd.prog 8 #[PV a c t] w fun e w' => e = .returned (.bool (decide ((chk7 t).2 = 0))) ∧ Below w.heap.size w w' := by
  obtain ⟨W0, hW0, hsz0, hb0, hp⟩ := prop_box w a c t
  have e0 : W0.cell? ⟨w.heap.size, 0, none⟩ = some (.slice (a 0) (t 0).length (c 0)) := hp 0 (by omega)
  have e1 : W0.cell? ⟨w.heap.size, 1, none⟩ = some (.slice (a 1) (t 1).length (c 1)) := hp 1 (by omega)
  have e2 : W0.cell? ⟨w.heap.size, 2, none⟩ = some (.slice (a 2) (t 2).length (c 2)) := hp 2 (by omega)
  have e3 : W0.cell? ⟨w.heap.size, 3, none⟩ = some (.slice (a 3) (t 3).length (c 3)) := hp 3 (by omega)
  have e4 : W0.cell? ⟨w.heap.size, 4, none⟩ = some (.slice (a 4) (t 4).length (c 4)) := hp 4 (by omega)
  have e5 : W0.cell? ⟨w.heap.size, 5, none⟩ = some (.slice (a 5) (t 5).length (c 5)) := hp 5 (by omega)
  have e6 : W0.cell? ⟨w.heap.size, 6, none⟩ = some (.slice (a 6) (t 6).length (c 6)) := hp 6 (by omega)
  have e7 : W0.cell? ⟨w.heap.size, 7, none⟩ = some (.slice (a 7) (t 7).length (c 7)) := hp 7 (by omega)
  have e8 : W0.cell? ⟨w.heap.size, 8, none⟩ = some (.slice (a 8) (t 8).length (c 8)) := hp 8 (by omega)
  have e9 : W0.cell? ⟨w.heap.size, 9, none⟩ = some (.slice (a 9) (t 9).length (c 9)) := hp 9 (by omega)
  have e10 : W0.cell? ⟨w.heap.size, 10, none⟩ = some (.slice (a 10) (t 10).length (c 10)) := hp 10 (by omega)
  have HK := Hid.mk' (refCheck7_any a c t W0 (hT.below hb0) hl)
  have HB := Hid.mk' hb0
  unfold PV at HK ⊢
  generalize chk7 t = x at *
  obtain ⟨x1, x2⟩ := x
  simp only [] at HK ⊢
  have HZ : Hid (((x2 : Int) == 0) = decide (x2 = 0)) := by
    show _ = _
    rw [Bool.eq_iff_iff]; simp
  clear hT hl hp hb0
  go_enter Tryd.func8, Tryd.ntmps8
  go_wp2_with fail
  refine HK.out.mono ?_
  rintro e w1 ⟨rfl, hb1⟩
  have HB1 := Hid.mk' (HB.out.trans (hb1.mono HB.out.size))
  clear HK hb1 e0 e1 e2 e3 e4 e5 e6 e7 e8 e9 e10
  go_wp2
  go_ret
  exact ⟨ret_bool HZ.out, HB1.out⟩
end Go.Proofs.YtcklfcoobccgcaaDoor

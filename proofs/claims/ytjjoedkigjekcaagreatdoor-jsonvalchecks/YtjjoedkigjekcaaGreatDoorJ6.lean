/-
  What is proved here: how much the parts of a value are; what the reference's Size answers.
-/
import Derived.Test.YtjjoedkigjekcaaGreatDoorJ3
namespace Go.Proofs.YtjjoedkigjekcaaGreatDoor
open Go.RowKit

theorem mem_sum {x : Nat} : ∀ {l : List Nat}, x ∈ l → x ≤ l.sum
  | y :: l, h => by
    rw [List.sum_cons]
    rcases List.mem_cons.1 h with rfl | h
    · omega
    · have := mem_sum h; omega
theorem weight_pos (t : J) : 1 ≤ weight t := by
  obtain ⟨k, s, l, m⟩ := t
  rw [weight_mk]; omega
theorem len_sum {α : Type} (f : α → Nat) (hf : ∀ x, 1 ≤ f x) : ∀ l : List α, l.length ≤ (l.map f).sum
  | [] => Nat.le_refl _
  | x :: l => by
    have := len_sum f hf l
    have := hf x
    rw [List.length_cons, List.map_cons, List.sum_cons]; omega
/-- the parts of a value that isn't too great -/
theorem weight_parts {k : Int} {s : List UInt8} {l : List J} {m : List (List UInt8 × J)} {B : Nat} (h : weight (.mk k s l m) ≤ B) :
    s.length ≤ B ∧ l.length ≤ B ∧ m.length ≤ B ∧ (∀ t ∈ l, weight t ≤ B) ∧ ∀ x ∈ m, x.1.length + weight x.2 ≤ B := by
  rw [weight_mk] at h
  have h1 := len_sum weight weight_pos l
  have h2 := len_sum (fun x : List UInt8 × J => x.1.length + weight x.2) (fun x => by have := weight_pos x.2; omega) m
  refine ⟨by omega, by omega, by omega, fun t ht => ?_, fun x hx => ?_⟩
  · have := mem_sum (List.mem_map_of_mem (f := weight) ht); omega
  · have := mem_sum (List.mem_map_of_mem (f := fun x : List UInt8 × J => x.1.length + weight x.2) hx); omega
theorem sums_le {α : Type} {f g : α → Nat} : ∀ {l : List α}, (∀ x ∈ l, f x ≤ g x) → (l.map f).sum ≤ (l.map g).sum
  | [], _ => Nat.le_refl _
  | x :: l, h => by
    have h1 := h x (by simp)
    have h2 := sums_le (l := l) (fun y hy => h y (by simp [hy]))
    rw [List.map_cons, List.map_cons, List.sum_cons, List.sum_cons]; omega
theorem size_weight : ∀ t : J, sizeM t ≤ weight t := by
  refine J.ind ?_
  intro k s l m ihl ihm
  rw [sizeM_mk, weight_mk]
  have h1 := sums_le ihl
  have h2 := sums_le (f := fun x : List UInt8 × J => sizeM x.2) (g := fun x : List UInt8 × J => x.1.length + weight x.2) (l := m) (fun x hx => by have := ihm x hx; omega)
  omega
theorem sum_at {α : Type} {f : α → Nat} {l : List α} {j : Nat} {t : α} (h : l[j]? = some t) : ((l.drop j).map f).sum = f t + ((l.drop (j + 1)).map f).sum := by
  rw [drop_get h, List.map_cons, List.sum_cons]
set_option maxRecDepth 20000 in
set_option maxHeartbeats 4000000 in
theorem size_any : ∀ t : J, weight t ≤ 4000 → ∀ (cs : List Value) (w : World), VJ w t cs →
    Calls Tryz.prog 14 #[.agg cs.toArray] w fun e w' => e = .returned (.int .i64 (sizeM t)) ∧ Below w.heap.size w w' := by
  refine J.ind ?_
  intro k s l m ihl ihm hwt cs w hv
  obtain ⟨a, ca, b, cb, rfl, hL, hM⟩ := (VJ_mk ..).1 hv
  obtain ⟨hs1, hs2, hs3, hs4, hs5⟩ := weight_parts hwt
  obtain ⟨W0, hW0, hsz, hb0, e0, e1, e2, e3⟩ := val_box w (.int .i64 k) (.string (strL s)) (.slice a l.length ca) (.slice b m.length cb)
  generalize strL s = S at *
  have HLL : Hid (∀ (j : Nat) (t : J), l[j]? = some t → ∃ ba oa c0 c1 c2 c3, a = some ⟨ba, oa, none⟩ ∧ ∀ W, Below w.heap.size w W → (W.cell? ⟨ba, oa + j * 4, none⟩ = some c0 ∧ W.cell? ⟨ba, oa + j * 4 + 1, none⟩ = some c1 ∧ W.cell? ⟨ba, oa + j * 4 + 2, none⟩ = some c2 ∧ W.cell? ⟨ba, oa + j * 4 + 3, none⟩ = some c3) ∧ Calls Tryz.prog 14 #[.agg #[c0, c1, c2, c3]] W fun e w' => e = .returned (.int .i64 (sizeM t)) ∧ Below W.heap.size W w') := fun j t hj => by
    obtain ⟨ba, oa, c0, c1, c2, c3, e, h⟩ := elem_at hL hj
    exact ⟨ba, oa, c0, c1, c2, c3, e, fun W hb => ⟨(h W hb).1, ihl t (List.mem_of_getElem? hj) (hs4 t (List.mem_of_getElem? hj)) _ W (h W hb).2⟩⟩
  have HMM : Hid (∀ (j : Nat) (x : List UInt8 × J), m[j]? = some x → ∃ bb ob c0 c1 c2 c3, b = some ⟨bb, ob, none⟩ ∧ ∀ W, Below w.heap.size w W → (W.cell? ⟨bb, ob + j * 5, none⟩ = some (.string (strL x.1)) ∧ W.cell? ⟨bb, ob + j * 5 + 1, none⟩ = some c0 ∧ W.cell? ⟨bb, ob + j * 5 + 2, none⟩ = some c1 ∧ W.cell? ⟨bb, ob + j * 5 + 3, none⟩ = some c2 ∧ W.cell? ⟨bb, ob + j * 5 + 4, none⟩ = some c3) ∧ Calls Tryz.prog 14 #[.agg #[c0, c1, c2, c3]] W fun e w' => e = .returned (.int .i64 (sizeM x.2)) ∧ Below W.heap.size W w') := fun j x hj => by
    obtain ⟨bb, ob, c0, c1, c2, c3, e, h⟩ := memb_at hM hj
    exact ⟨bb, ob, c0, c1, c2, c3, e, fun W hb => ⟨(h W hb).1, ihm x (List.mem_of_getElem? hj) (by have := hs5 x (List.mem_of_getElem? hj); omega) _ W (h W hb).2⟩⟩
  have HE : Hid (∀ W, Below W0.heap.size W0 W → (W.cell? ⟨w.heap.size, 2, none⟩ = some (.slice a l.length ca) ∧ W.cell? ⟨w.heap.size, 3, none⟩ = some (.slice b m.length cb)) ∧ Below w.heap.size w W) := fun W hb =>
    ⟨⟨(hb.cell (lt_of_cell e2)).trans e2, (hb.cell (lt_of_cell e3)).trans e3⟩, hb0.trans (hb.mono hb0.size)⟩
  have HT : Hid (∀ W W', Below W0.heap.size W0 W → Below W.heap.size W W' → Below W0.heap.size W0 W') := below_tr
  obtain ⟨R, hR⟩ : ∃ R, sizeM (.mk k s l m) = R := ⟨_, rfl⟩
  have hRz : R ≤ 4000 := by rw [← hR]; exact Nat.le_trans (size_weight _) hwt
  rw [hR]
  rw [sizeM_mk] at hR
  have HR : Hid (1 + ((l.drop 0).map sizeM).sum + (m.map fun x => sizeM x.2).sum = R) := hR
  clear hR ihl ihm hL hM hv hwt hs4 hs5 e1 e2 e3 e0 hs1
  obtain ⟨d2, d3⟩ := (HE.out W0 (Below.refl _ _)).1
  have hstart : Below W0.heap.size W0 W0 := Below.refl _ _
  go_enter Tryz.func14, Tryz.ntmps14
  go_wp2
  go_loopw [3, 4] (fun x5 x6 wr => ∃ (j n : Nat), x5 = .int .i64 n ∧ x6 = .int .i64 j ∧ j ≤ l.length ∧ Hid (n + ((l.drop j).map sizeM).sum + (m.map fun x => sizeM x.2).sum = R) ∧ Below W0.heap.size W0 wr) (fun _ x6 _ => l.length - (intOf x6).toNat)
  case atStart => exact ⟨0, 1, rfl, rfl, Nat.zero_le _, HR, hstart⟩
  case round =>
    obtain ⟨j, n, rfl, rfl, hj, HCN, hbr⟩ := hrel
    obtain ⟨f2, f3⟩ := (HE.out _ hbr).1
    by_cases hlt : j < l.length
    · obtain ⟨t, ht⟩ := get_lt hlt
      obtain ⟨ba, oa, c0, c1, c2, c3, rfl, HX⟩ := HLL.out j t ht
      obtain ⟨⟨g0, g1, g2, g3⟩, HXc⟩ := HX _ (HE.out _ hbr).2
      have HX1 := Hid.mk' HXc
      have hcn := HCN.out
      rw [sum_at ht] at hcn
      have hcl : n + sizeM t ≤ R := by omega
      have HC2 : Hid (n + sizeM t + ((l.drop (j + 1)).map sizeM).sum + (m.map fun x => sizeM x.2).sum = R) := by show _ = _; omega
      generalize sizeM t = c at *
      clear HX HXc HLL HMM HCN ht hcn
      go_wp2_with fail
      refine HX1.out.mono ?_
      rintro e w1 ⟨rfl, hb1⟩
      have hz1 := HT.out _ _ hbr hb1
      clear HX1 g0 g1 g2 g3 f2 f3 hbr hb1
      go_wp2
      go_roundw
      case rel => exact ⟨j + 1, n + c, by go_num, by go_num, by omega, HC2, hz1⟩
      case measure => simp [intOf]; omega
    · have hcn := HCN.out
      rw [List.drop_eq_nil_of_le (by omega)] at hcn
      have HC2 : Hid (n + ((m.drop 0).map fun x => sizeM x.2).sum = R) := by show _ = _; simpa using hcn
      clear HLL HCN HR hcn
      go_wp2
      go_loopw [3, 5] (fun x5 x7 wr => ∃ (j n : Nat), x5 = .int .i64 n ∧ x7 = .int .i64 j ∧ j ≤ m.length ∧ Hid (n + ((m.drop j).map fun x => sizeM x.2).sum = R) ∧ Below W0.heap.size W0 wr) (fun _ x7 _ => m.length - (intOf x7).toNat)
      case atStart => exact ⟨0, n, rfl, rfl, Nat.zero_le _, HC2, hbr⟩
      case round =>
        clear HC2 hbr f2 f3
        obtain ⟨j, n, rfl, rfl, hj, HCN, hbr⟩ := hrel
        obtain ⟨f2, f3⟩ := (HE.out _ hbr).1
        by_cases hlt : j < m.length
        · obtain ⟨x, ht⟩ := get_lt hlt
          obtain ⟨bb, ob, c0, c1, c2, c3, rfl, HX⟩ := HMM.out j x ht
          obtain ⟨⟨g0, g1, g2, g3, g4⟩, HXc⟩ := HX _ (HE.out _ hbr).2
          have HX1 := Hid.mk' HXc
          have hcn := HCN.out
          rw [sum_at (f := fun x : List UInt8 × J => sizeM x.2) ht] at hcn
          have hcl : n + sizeM x.2 ≤ R := by omega
          have HC2 : Hid (n + sizeM x.2 + ((m.drop (j + 1)).map fun x => sizeM x.2).sum = R) := by show _ = _; omega
          generalize sizeM x.2 = c at *
          clear HX HXc HMM HCN ht hcn
          go_wp2_with fail
          refine HX1.out.mono ?_
          rintro e w1 ⟨rfl, hb1⟩
          have hz1 := HT.out _ _ hbr hb1
          clear HX1 g0 g1 g2 g3 g4 f2 f3 hbr hb1
          go_wp2
          go_roundw
          case rel => exact ⟨j + 1, n + c, by go_num, by go_num, by omega, HC2, hz1⟩
          case measure => simp [intOf]; omega
        · have hcn := HCN.out
          rw [List.drop_eq_nil_of_le (by omega)] at hcn
          have hnR : R = n := by simpa using hcn.symm
          have hfin := (HE.out _ hbr).2
          subst hnR
          clear HMM HCN hcn
          go_wp2
          go_ret
          exact ⟨rfl, hfin⟩
end Go.Proofs.YtjjoedkigjekcaaGreatDoor

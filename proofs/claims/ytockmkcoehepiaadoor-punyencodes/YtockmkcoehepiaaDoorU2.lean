/-
  What is proved here: what the document's Encode answers.
-/
import Derived.Test.YtockmkcoehepiaaDoorU1
namespace Go.Proofs.YtockmkcoehepiaaDoor
open Go.RowKit

set_option maxRecDepth 20000 in
set_option maxHeartbeats 1000000 in
theorem refEncode_wrong (a : Option Addr) (cap : Nat) (l : List Int) (w : World) (h : RunesC w a cap l) (hl : l.length ≤ 200) (hw : 0 ≤ wrongAt l) :
    Calls Tryd.prog 26 #[.slice a l.length cap] w fun e w' => e = .returned (.tuple #[.string ⟨#[]⟩, .int .i64 (wrongAt l), .int .i64 4]) ∧ Below w.heap.size w w' := by
  have HC := Hid.mk' h.2
  have HW : Hid (∀ r W, _) := fun r W => refRight_any r W
  have HS : Hid (∀ k, k < l.length → (∀ j, j < k → rgtB (l.getD j 0) = true) → rgtB (l.getD k 0) = false → wrongAt l = k) := fun k hk h1 h2 => wrong_some hk h1 h2
  have HN : Hid (¬ (∀ j, j < l.length → rgtB (l.getD j 0) = true)) := fun h => by
    have := (wrong_none (l := l)).2 (fun x hx => by
      obtain ⟨j, hj, rfl⟩ := List.getElem_of_mem hx
      have := h j hj
      rwa [List.getD_eq_getElem?_getD, List.getElem?_eq_getElem hj] at this)
    omega
  generalize wrongAt l = R at *
  clear h hw
  go_enter Tryd.func26, Tryd.ntmps26
  go_wp2
  go_loop [5] (fun x => ∃ k : Nat, k ≤ l.length ∧ x = .int .i64 k ∧ Hid (∀ j, j < k → rgtB (l.getD j 0) = true)) (fun x => l.length - (intOf x).toNat)
  case atStart => exact ⟨0, Nat.zero_le _, rfl, fun j hj => by omega⟩
  case round =>
    obtain ⟨k, hk, rfl, HA⟩ := hrel
    by_cases hlt : k < l.length
    · obtain ⟨b, off, rfl, ck⟩ := HC.out k hlt
      have HK := Hid.mk' (HW.out (l.getD k 0) w)
      have HX : Hid (∀ x, l.getD k 0 = x → rgtB x = true → ∀ j, j < k + 1 → rgtB (l.getD j 0) = true) := fun x e g j hj => by
        rcases Nat.lt_or_ge j k with q | q
        · exact HA.out j q
        · obtain rfl : j = k := by omega
          rw [e]; exact g
      have HY : Hid (rgtB (l.getD k 0) = false → R = k) := fun g => HS.out k hlt HA.out g
      generalize hx : l.getD k 0 = x at *
      have HE := Hid.mk' (HX.out x rfl)
      clear hx HX
      have hklz : (k : Int) < (l.length : Int) := by omega
      cases hg : rgtB x
      · rw [hg] at HK
        have HR := Hid.mk' (HY.out hg)
        clear hg
        go_wp2_with fail
        refine HK.out.mono ?_
        rintro e w1 ⟨rfl, rfl⟩
        go_wp2
        go_ret3
        exact ⟨by rw [HR.out]; rfl, Below.refl _ _⟩
      · rw [hg] at HK
        have HE2 := Hid.mk' (HE.out hg)
        clear hg HE
        go_wp2_with fail
        refine HK.out.mono ?_
        rintro e w1 ⟨rfl, rfl⟩
        go_wp2
        go_round
        case rel => exact ⟨k + 1, by omega, by go_num, HE2⟩
        case measure => simp [intOf]; omega
    · obtain rfl : k = l.length := by omega
      exact absurd HA.out HN.out
/-- what holds where the document's Encode puts a rune in -/
structure AtH (l : List Int) (r : Int) (k : Nat) (s : Est) : Prop where
  ok : EOk s
  r0 : s.n ≤ r
  r1 : r ≤ 1114111
  a1 : (cntM l r k : Int) ≤ s.m
  nx : s.n < r ∨ s.i ≤ (cntM l r k : Int)
  m1 : s.m + 1 ≤ 120
  len : s.out.length ≤ 100000
  next : afterE l (doneM l r (k + 1)) = putE s r (cntM l r k)
  len2 : (putE s r (cntM l r k)).out.length ≤ 100000
theorem at_hit {l : List Int} (hl : l.length ≤ 120) (hr : ∀ x ∈ l, rgtB x = true) {r : Int} {k : Nat} (hk : k < l.length) (e : l.getD k 0 = r) (h128 : 128 ≤ r) : AtH l r k (afterE l (doneM l r k)) := by
  have hr' : ∀ x ∈ l, x ≤ 1114111 := fun x hx => by have := hr x hx; simp [rgtB] at this; omega
  obtain ⟨S, h1, h2⟩ := done_hit hk e h128
  obtain ⟨o1, o2, o3, o4, o5, o6⟩ := ord_step hl hr' _ _ _ h1
  have hlen := after_len hl hr' _ _ h1
  have hol := ord_len l
  have hPl : (doneM l r k).length ≤ (ordM l).length := List.length_filter_le _ _
  have er : rn l (k : Int) = r := by unfold rn; rw [Int.toNat_natCast]; exact e
  have ea : aheadM l k = cntM l r k := by unfold aheadM cntM; rw [e]
  rw [er] at o2 o3 o5
  rw [Int.toNat_natCast, ea] at o4 o5
  have hnx : afterE l (doneM l r (k + 1)) = putE (afterE l (doneM l r k)) r (cntM l r k) := by
    rw [h2, after_snoc]
    unfold stepE
    rw [er, Int.toNat_natCast, ea]
  have hlen2 := after_len hl hr' (doneM l r k ++ [(k : Int)]) S (by rw [h1]; simp)
  have hPl2 : (doneM l r k).length + 1 ≤ (ordM l).length := by rw [h1]; simp
  rw [← h2, hnx, h2] at hlen2
  exact ⟨o1, o2, o3, o4, o5, o6, by omega, hnx, by simp at hlen2; omega⟩
theorem least_next {l : List Int} {r : Int} (hr : -1 ≤ r) : (leastM l r = -1 ∧ ∀ x ∈ l, ¬ r < x) ∨ (r < leastM l r ∧ leastM l r ∈ l ∧ ∀ x ∈ l, r < x → leastM l r ≤ x) := by
  have key : ∀ x ∈ l, ∃ j, j < l.length ∧ l.getD j 0 = x := fun x hx => by
    obtain ⟨j, hj, rfl⟩ := List.getElem_of_mem hx
    exact ⟨j, hj, by rw [List.getD_eq_getElem?_getD, List.getElem?_eq_getElem hj]; rfl⟩
  rcases leastK_spec l r hr l.length (Nat.le_refl _) with ⟨e, hn⟩ | ⟨e, ⟨j0, h0, e0⟩, hn⟩
  · refine .inl ⟨e, fun x hx => ?_⟩
    obtain ⟨j, hj, rfl⟩ := key x hx
    exact hn j hj
  · refine .inr ⟨e, ?_, fun x hx hx' => ?_⟩
    · show leastK l r l.length ∈ l
      rw [← e0, List.getD_eq_getElem?_getD, List.getElem?_eq_getElem h0]
      exact List.getElem_mem _
    · obtain ⟨j, hj, rfl⟩ := key x hx
      exact hn j hj hx'
/-- where the document's Encode stands, ahead of the rune r (or behind all runes) -/
def AtR (l : List Int) (r : Int) (E : Est) : Prop := (r = -1 ∧ afterE l (ordM l) = E) ∨ (128 ≤ r ∧ r ≤ 1114111 ∧ afterE l (doneM l r 0) = E)
theorem at_first {l : List Int} (hr : ∀ x ∈ l, x ≤ 1114111) : AtR l (leastM l 127) (startE l) := by
  rcases least_next (l := l) (r := 127) (by omega) with ⟨e, hn⟩ | ⟨e, hm, hn⟩
  · refine .inl ⟨e, ?_⟩
    have ho : ordM l = [] := by
      cases ho : ordM l with
      | nil => rfl
      | cons k O =>
        have hk := (ord_mem (l := l) (k := k)).1 (by rw [ho]; simp)
        have hmem : rn l k ∈ l := by
          unfold rn
          rw [List.getD_eq_getElem?_getD, List.getElem?_eq_getElem (by omega)]
          exact List.getElem_mem _
        exact absurd (show (127 : Int) < rn l k by omega) (hn _ hmem)
    rw [ho]
    rfl
  · refine .inr ⟨by omega, hr _ hm, ?_⟩
    rw [done_none (fun x hx h => hn x hx (by omega))]
    rfl
theorem at_next {l : List Int} (hr : ∀ x ∈ l, x ≤ 1114111) {r : Int} (h : 128 ≤ r) : AtR l (leastM l r) (afterE l (doneM l r l.length)) := by
  rcases least_next (l := l) (r := r) (by omega) with ⟨e, hn⟩ | ⟨e, hm, hn⟩
  · exact .inl ⟨e, by rw [done_all hn]⟩
  · exact .inr ⟨by omega, hr _ hm, by rw [done_next e hn]⟩
def measR (r : Int) : Nat := if r < 0 then 0 else 1 + (1114111 - r).toNat
end Go.Proofs.YtockmkcoehepiaaDoor

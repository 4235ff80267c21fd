/-
  What is proved here: what pct.escaped answers at every text.
-/
import Derived.Test.YteflghhpdikidaaDoorPct1
namespace Go.Proofs.YteflghhpdikidaaDoor
open Go.RowKit

theorem esc_str {s : ByteArray} {v : Nat} (h : Pct.esc s.data.toList = (v, 0)) : ∃ (h2 : 2 ≤ s.size) (x y : Nat), Pct.hex s[0].toNat = some x ∧ Pct.hex s[1].toNat = some y ∧ v = 16 * x + y := by
  obtain ⟨a, b, u, x, y, e, ha, hb, hv⟩ := Pct.esc_ok h
  obtain ⟨⟨l⟩⟩ := s
  have e' : l = a :: b :: u := e
  subst e'
  exact ⟨by simp [ByteArray.size], x, y, ha, hb, hv⟩
theorem esc_short {s : ByteArray} (h : s.size < 2) : Pct.esc s.data.toList = (0, 2) := by
  obtain ⟨⟨l⟩⟩ := s
  match l, h with
  | [], _ => rfl
  | [_], _ => rfl
  | a :: b :: u, h => simp [ByteArray.size] at h; omega
theorem esc_none {s : ByteArray} (h2 : 2 ≤ s.size) (h : Pct.hex s[0].toNat = none ∨ Pct.hex s[1].toNat = none) : Pct.esc s.data.toList = (0, 1) := by
  obtain ⟨⟨l⟩⟩ := s
  match l, h2, h with
  | a :: b :: u, h2, h =>
    have h' : Pct.hex a.toNat = none ∨ Pct.hex b.toNat = none := h
    show Pct.esc (a :: b :: u) = _
    rw [Pct.esc]
    rcases h' with h' | h'
    · rw [h']
    · rw [h']; cases Pct.hex a.toNat <;> rfl
  | [], h2, _ => simp [ByteArray.size] at h2
  | [_], h2, _ => simp [ByteArray.size] at h2

theorem esc_some {s : ByteArray} (h2 : 2 ≤ s.size) {x y : Nat} (hx : Pct.hex s[0].toNat = some x) (hy : Pct.hex s[1].toNat = some y) : Pct.esc s.data.toList = (16 * x + y, 0) := by
  obtain ⟨⟨l⟩⟩ := s
  match l, h2, hx, hy with
  | a :: b :: u, _, hx, hy =>
    have hx' : Pct.hex a.toNat = some x := hx
    have hy' : Pct.hex b.toNat = some y := hy
    show Pct.esc (a :: b :: u) = _
    rw [Pct.esc, hx', hy']
  | [], h2, _, _ => simp [ByteArray.size] at h2
  | [_], h2, _, _ => simp [ByteArray.size] at h2

set_option maxHeartbeats 1000000 in
theorem escaped_ok (s : ByteArray) (w : World) (v : Nat) (hs : s.size ≤ maxLen) (h : Pct.esc s.data.toList = (v, 0)) :
    Calls Tryd.prog 41 #[.string s] w fun e w' => e = .returned (.tuple #[.int .u8 v, .nilIface]) ∧ Below w.heap.size w w' := by
  obtain ⟨h2, x, y, hx, hy, rfl⟩ := esc_str h
  have hx16 := Pct.hex_lt hx
  have hy16 := Pct.hex_lt hy
  unfold maxLen at hs
  have HX := Hid.mk' (fun w => hexValue_some _ _ w hx)
  have HY := Hid.mk' (fun w => hexValue_some _ _ w hy)
  clear hx hy h
  go_enter Tryd.func41, Tryd.ntmps41
  go_wp2_with fail
  refine (HX.out _).mono ?_
  rintro e w1 ⟨rfl, rfl⟩
  go_wp2_with fail
  refine (HY.out _).mono ?_
  rintro e w2 ⟨rfl, rfl⟩
  go_wp2
  go_ret2
  refine ⟨ret_tup2 ?_, Below.refl _ _⟩
  rw [bits_join .u8 8 (by decide) wraps_u8 4 ((x : Int) * 16) y (by omega) (by omega) (by omega) (by omega) (by omega) (by omega)]
  omega

set_option maxHeartbeats 1000000 in
theorem escaped_err (s : ByteArray) (w : World) (p : Nat → Addr) (hs : s.size ≤ maxLen) (hg : Gl p w) (v c : Nat) (h : Pct.esc s.data.toList = (v, c)) (hc : c ≠ 0) :
    Calls Tryd.prog 41 #[.string s] w fun e w' => e = .returned (.tuple #[.int .u8 0, .iface 133 (.pointer (some (p c)))]) ∧ Below w.heap.size w w' := by
  unfold maxLen at hs
  obtain ⟨-, g1, g2, -⟩ := hg
  by_cases h2 : s.size < 2
  · rw [esc_short h2] at h
    obtain ⟨rfl, rfl⟩ := Prod.mk.injEq .. ▸ h
    clear h hc g1
    go_enter Tryd.func41, Tryd.ntmps41
    go_wp2
    go_region
    go_wp2
    go_ret2
    exact ⟨rfl, (Below.refl _ _).drew⟩
  · have h2' : 2 ≤ s.size := by omega
    cases hx : Pct.hex s[0].toNat with
    | none =>
      rw [esc_none h2' (.inl hx)] at h
      obtain ⟨rfl, rfl⟩ := Prod.mk.injEq .. ▸ h
      have HX := Hid.mk' (fun w => hexValue_none _ w hx)
      clear h hc g2 hx
      go_enter Tryd.func41, Tryd.ntmps41
      go_wp2_with (go_at_call 51; refine (HX.out _).mono ?_; rintro e w1 ⟨rfl, rfl⟩)
      go_region
      go_wp2
      go_ret2
      exact ⟨rfl, (Below.refl _ _).drew⟩
    | some x =>
      cases hy : Pct.hex s[1].toNat with
      | none =>
        rw [esc_none h2' (.inr hy)] at h
        obtain ⟨rfl, rfl⟩ := Prod.mk.injEq .. ▸ h
        have HX := Hid.mk' (fun w => hexValue_some _ _ w hx)
        have HY := Hid.mk' (fun w => hexValue_none _ w hy)
        clear h hc g2 hx hy
        go_enter Tryd.func41, Tryd.ntmps41
        go_wp2_with fail
        refine (HX.out _).mono ?_
        rintro e w1 ⟨rfl, rfl⟩
        go_wp2_with fail
        refine (HY.out _).mono ?_
        rintro e w2 ⟨rfl, rfl⟩
        go_wp2
        go_region
        go_wp2
        go_ret2
        exact ⟨rfl, (Below.refl _ _).drew⟩
      | some y =>
        have := esc_some h2' hx hy
        rw [this] at h
        simp at h
        exact absurd h.2.symm hc
end Go.Proofs.YteflghhpdikidaaDoor

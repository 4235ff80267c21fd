/-
  What is proved here: what syllable and One answer.
-/
import Derived.Test.YtoceaielclomcaaRRGreatDoorA4
import Derived.Test.YtoceaielclomcaaRRGreatDoorShelf
import Derived.Lib.OwnBridge
namespace Go.Proofs.YtoceaielclomcaaRRGreatDoor
open Go.RowKit Go.Sort

/-- a slice of new memory -/
theorem own_new (w : World) (B : Nat) (xs : List Value) (t : TypeId) (hB : B ≤ w.heap.size) (hl : xs.length ≤ maxLen) : (w.alloc (.cells xs.toArray t)).ownsRow B t 1 (.slice (some ⟨w.heap.size, 0, none⟩) xs.length xs.length) xs.length xs := by
  refine ⟨by simp, .inr ⟨w.heap.size, xs.length, xs.toArray, rfl, hB, Array.getElem?_push_size, Nat.le_refl _, hl, by simp, by simp⟩⟩
theorem own_weaken {w : World} {B B' : Nat} {e : TypeId} {k n : Nat} {v : Value} {xs : List Value} (h : w.ownsRow B' e k v n xs) (hB : B ≤ B') : w.ownsRow B e k v n xs := by
  refine ⟨h.1, ?_⟩
  rcases h.2 with h | ⟨g, cap, cur, h1, h2, h3⟩
  · exact .inl h
  · exact .inr ⟨g, cap, cur, h1, by omega, h3⟩
set_option maxHeartbeats 2000000 in
theorem syllable_any (r : Int) (w : World) (hg : Hg w) (h1 : 44032 ≤ r) (h2 : r ≤ 55203) :
    Calls Tryz.prog 127 #[.int .i32 r] w fun e w' => ∃ v, e = .returned v ∧ w'.ownsRow w.heap.size 21 1 v (sylM r).length ((sylM r).map (Value.int .i32)) ∧ Below w.heap.size w w' := by
  obtain ⟨i0, hi, hz0, hz1, hz2⟩ := info_parts Tryz.infoRune
  obtain ⟨c0, -, c2, -, c4, -, c6, -⟩ := hg
  obtain ⟨n, rfl⟩ : ∃ n, r = n + 44032 := ⟨r - 44032, by omega⟩
  have n0 : 0 ≤ n := by omega
  have n1 : n ≤ 11171 := by omega
  obtain ⟨x, hx⟩ : ∃ x, n / 28 / 21 = x := ⟨_, rfl⟩
  obtain ⟨y, hy⟩ : ∃ y, n / 28 % 21 = y := ⟨_, rfl⟩
  obtain ⟨z, hz⟩ : ∃ z, n % 28 = z := ⟨_, rfl⟩
  have hS : Hid (sylM (n + 44032) = [4352 + x, 4449 + y] ++ (if z = 0 then [] else [4519 + z])) := by
    show _ = _
    unfold sylM
    rw [show n + 44032 - 44032 = n by omega, hz, hy, show n / 588 = x by omega]
  have x0 : 0 ≤ x := by omega
  have x1 : x < 19 := by omega
  have y0 : 0 ≤ y := by omega
  have y1 : y < 21 := by omega
  have z0 : 0 ≤ z := by omega
  have z1 : z < 28 := by omega
  have k1 := lt_of_cell c6
  have d6 : (w.alloc (.cells #[.int .i32 (4352 + x), .int .i32 (4449 + y)] 21)).cell? ⟨20, 6, none⟩ = some (.int .i32 4520) := by
    rw [World.cell?_alloc_lt _ _ ⟨20, 6, none⟩ k1]; exact c6
  generalize sylM (n + 44032) = res at *
  by_cases hzz : z = 0
  · rw [if_pos hzz] at hS
    have hzd : decide (0 < z) = false := by simp; omega
    clear hzz d6
    go_enter Tryz.func127, Tryz.ntmps127
    go_wp2
    go_ret
    refine ⟨_, rfl, ?_, (Below.refl _ _).alloc (Nat.le_refl _) _⟩
    rw [hS.out]
    exact own_new w _ [.int .i32 (4352 + x), .int .i32 (4449 + y)] _ (Nat.le_refl _) (by simp [maxLen])
  · rw [if_neg hzz] at hS
    have hzd : decide (0 < z) = true := by simp; omega
    have HO := Hid.mk' (own_new w w.heap.size [.int .i32 (4352 + x), .int .i32 (4449 + y)] 21 (Nat.le_refl _) (by simp [maxLen]))
    clear hzz
    go_enter Tryz.func127, Tryz.ntmps127
    go_wp2_with (at_builtin; (refine wpList_append_own _ rfl _ _ 37 rfl w.heap.size 21 i0 (.int .i32 0) 1 4 Tryz.underlying37 hi hz0 hz1 hz2 rfl (by decide) _ _ _ rfl (HO.out.alloc _) ⟨w.heap.size + 1, 0, none⟩ 1 1 [.int .i32 (4520 + z - 1)] rfl rfl (by have := cell_one_new (w.alloc (.cells #[.int .i32 (4352 + x), .int .i32 (4449 + y)] 21)) (.int .i32 (4520 + z - 1)) 21; rw [World.size_alloc] at this; exact this) (by intro u hu; simp at hu; subst hu; rfl) (by unfold maxLen; simp) (by simp) (by simp; omega) ?_; intro v' w2 hown' hgrow _))
    go_ret
    refine ⟨_, rfl, ?_, ?_⟩
    · rw [hS.out, show 4519 + z = 4520 + z - 1 by omega]
      simpa using hown'
    · exact ((((Below.refl _ w).alloc (Nat.le_refl _) _).alloc (by simp) _).grown hgrow (by simp; omega) (fun j hj => by have := HO.out.lt j hj; omega))
end Go.Proofs.YtoceaielclomcaaRRGreatDoor

/-
  What is proved here: what utf.appendForm and utf.Encode answer.
-/
import Derived.Test.YtbpjenckkllbaaaDoorDecode
namespace Go.Proofs.YtbpjenckkllbaaaDoor
open Go.RowKit

theorem Tryd.infoByte : (Tryd.prog.info? 5).map (fun i => (i.zero, i.size, i.bytes)) = some (some (.int .u8 0), 1, 1) := by kernel_rfl
theorem cells_new (w : World) (l : List Value) (t : TypeId) : ∀ j u, l[j]? = some u → (w.alloc (.cells l.toArray t)).cell? ((⟨w.heap.size, 0, none⟩ : Addr).add j) = some u := by
  intro j u h
  have e : (⟨w.heap.size, 0, none⟩ : Addr).add j = ⟨w.heap.size, j, none⟩ := by simp [Addr.add]; omega
  rw [e, World.cell?_alloc_new, List.getElem?_toArray]
  exact h
theorem ints_one (k : IntKind) (l : List Int) : ∀ u ∈ l.map (Value.int k), u.oneCell' = true := by
  intro u hu
  obtain ⟨z, _, rfl⟩ := List.mem_map.1 hu
  rfl

set_option maxHeartbeats 1000000 in
theorem appendForm_any (r : Int) (v : Value) (n B : Nat) (xs : List Value) (w : World) (hr : 0 < Utf.width r) (hown : w.ownsRow B 5 1 v n xs) (hB : B ≤ w.heap.size) (hn : n ≤ 2147483648) :
    Calls Tryd.prog 30 #[v, .int .i32 r] w fun e w' => ∃ v', e = .returned v' ∧ w'.ownsRow B 5 1 v' (n + (Utf.form r).length) (xs ++ (Utf.form r).map (Value.int .u8)) ∧ Below B w w' := by
  obtain ⟨i0, hi, hz0, hz1, hz2⟩ := info_parts Tryd.infoByte
  have hb : (Utf.width r = 1 ∧ 0 ≤ r ∧ r < 128) ∨ (Utf.width r = 2 ∧ 128 ≤ r ∧ r < 2048) ∨ (Utf.width r = 3 ∧ 2048 ≤ r ∧ r < 65536) ∨ (Utf.width r = 4 ∧ 65536 ≤ r ∧ r ≤ 1114111) := by unfold Utf.width at hr ⊢; (repeat' split at hr) <;> omega
  rcases hb with ⟨hw, h0, h1⟩ | ⟨hw, h0, h1⟩ | ⟨hw, h0, h1⟩ | ⟨hw, h0, h1⟩
  · have HF : Hid (Utf.form r = [r]) := if_pos h1
    go_enter Tryd.func30, Tryd.ntmps30
    go_wp2_with (first | (go_at_call 20; refine (width_any _ _).mono ?_; rintro e w' ⟨rfl, rfl⟩; rw [hw]) | (at_builtin; refine wpList_append_own _ rfl _ _ 56 rfl B 5 i0 (.int .u8 0) 1 1 Tryd.underlying56 hi hz0 hz1 hz2 rfl (by decide) _ _ _ rfl (hown.alloc _) ⟨w.heap.size, 0, none⟩ 1 1 ([r].map (Value.int .u8)) rfl rfl (cells_new _ _ _) (ints_one _ _) (by unfold maxLen; omega) (by omega) (by simp; omega) ?_; intro v' w2 hown' hgrow _))
    go_ret
    rw [HF.out]
    exact ⟨_, rfl, hown', ((Below.refl _ _).alloc hB _).grown hgrow (by simp; omega) (fun j hj => (hown.lt j hj).1)⟩
  · have HF : Hid (Utf.form r = [192 + r / 64, 128 + r % 64]) := (if_neg (by omega)).trans (if_pos h1)
    go_enter Tryd.func30, Tryd.ntmps30
    go_wp2_with (first | (go_at_call 20; refine (width_any _ _).mono ?_; rintro e w' ⟨rfl, rfl⟩; rw [hw]) | (go_at_call 40; refine (tailOf_any _ _ ?_ ?_).mono ?_; omega; omega; rintro e w' ⟨rfl, rfl⟩) | (at_builtin; refine wpList_append_own _ rfl _ _ 56 rfl B 5 i0 (.int .u8 0) 1 1 Tryd.underlying56 hi hz0 hz1 hz2 rfl (by decide) _ _ _ rfl (hown.alloc _) ⟨w.heap.size, 0, none⟩ 2 2 ([192 + r / 64, 128 + r % 64].map (Value.int .u8)) rfl rfl (cells_new _ _ _) (ints_one _ _) (by unfold maxLen; omega) (by omega) (by simp; omega) ?_; intro v' w2 hown' hgrow _))
    go_ret
    rw [HF.out]
    exact ⟨_, rfl, hown', ((Below.refl _ _).alloc hB _).grown hgrow (by simp; omega) (fun j hj => (hown.lt j hj).1)⟩
  · have HF : Hid (Utf.form r = [224 + r / 4096, 128 + r / 64 % 64, 128 + r % 64]) := (if_neg (by omega)).trans ((if_neg (by omega)).trans (if_pos h1))
    go_enter Tryd.func30, Tryd.ntmps30
    go_wp2_with (first | (go_at_call 20; refine (width_any _ _).mono ?_; rintro e w' ⟨rfl, rfl⟩; rw [hw]) | (go_at_call 40; refine (tailOf_any _ _ ?_ ?_).mono ?_; omega; omega; rintro e w' ⟨rfl, rfl⟩) | (at_builtin; refine wpList_append_own _ rfl _ _ 56 rfl B 5 i0 (.int .u8 0) 1 1 Tryd.underlying56 hi hz0 hz1 hz2 rfl (by decide) _ _ _ rfl (hown.alloc _) ⟨w.heap.size, 0, none⟩ 3 3 ([224 + r / 4096, 128 + r / 64 % 64, 128 + r % 64].map (Value.int .u8)) rfl rfl (cells_new _ _ _) (ints_one _ _) (by unfold maxLen; omega) (by omega) (by simp; omega) ?_; intro v' w2 hown' hgrow _))
    go_ret
    rw [HF.out]
    exact ⟨_, rfl, hown', ((Below.refl _ _).alloc hB _).grown hgrow (by simp; omega) (fun j hj => (hown.lt j hj).1)⟩
  · have HF : Hid (Utf.form r = [240 + r / 262144, 128 + r / 4096 % 64, 128 + r / 64 % 64, 128 + r % 64]) := (if_neg (by omega)).trans ((if_neg (by omega)).trans (if_neg (by omega)))
    go_enter Tryd.func30, Tryd.ntmps30
    go_wp2_with (first | (go_at_call 20; refine (width_any _ _).mono ?_; rintro e w' ⟨rfl, rfl⟩; rw [hw]) | (go_at_call 40; refine (tailOf_any _ _ ?_ ?_).mono ?_; omega; omega; rintro e w' ⟨rfl, rfl⟩) | (at_builtin; refine wpList_append_own _ rfl _ _ 56 rfl B 5 i0 (.int .u8 0) 1 1 Tryd.underlying56 hi hz0 hz1 hz2 rfl (by decide) _ _ _ rfl (hown.alloc _) ⟨w.heap.size, 0, none⟩ 4 4 ([240 + r / 262144, 128 + r / 4096 % 64, 128 + r / 64 % 64, 128 + r % 64].map (Value.int .u8)) rfl rfl (cells_new _ _ _) (ints_one _ _) (by unfold maxLen; omega) (by omega) (by simp; omega) ?_; intro v' w2 hown' hgrow _))
    go_ret
    rw [HF.out]
    exact ⟨_, rfl, hown', ((Below.refl _ _).alloc hB _).grown hgrow (by simp; omega) (fun j hj => (hown.lt j hj).1)⟩
end Go.Proofs.YtbpjenckkllbaaaDoor

/-
  What is proved here: what number, runeNumber and valueNumber answer at any text.
-/
import Derived.Test.YtlnehhfljjeifaaGreatDoorBase
import Derived.Test.YtlnehhfljjeifaaGreatDoorP0
import Derived.Test.YtlnehhfljjeifaaGreatDoorShelf
namespace Go.Proofs.YtlnehhfljjeifaaGreatDoor
open Go.RowKit

/-- what number answers -/
def numV (k : IntKind) (o : Option Nat) : Value := .tuple #[.int k ((o.getD 0 : Nat) : Int), .bool o.isSome]
theorem drop_cons' (s : ByteArray) (k : Nat) (h : k < s.size) : s.data.toList.drop k = s[k] :: s.data.toList.drop (k + 1) := by
  have h' : k < s.data.toList.length := h
  rw [List.drop_eq_getElem_cons h']
  rfl
set_option maxHeartbeats 1000000 in
theorem number_any (s ds : ByteArray) (least most : Nat) (w : World) (hd : ds.size ≤ 16) (hd0 : 1 ≤ ds.size) (hm : most ≤ 7) (hl : 1 ≤ least) :
    Calls Tryz.prog 90 #[.string s, .string ds, .int .i64 least, .int .i64 most] w fun e w' => e = .returned (numV .i64 (numb ds.data.toList least most s.data.toList)) ∧ Below w.heap.size w w' := by
  have hlen : s.data.toList.length = s.size := rfl
  have hb' : ds.data.toList.length = ds.size := rfl
  by_cases h1 : s.size < least
  · have hn : Hid (numb ds.data.toList least most s.data.toList = none) := by show _ = _; unfold numb; rw [if_pos (.inl (by omega))]
    go_enter Tryz.func90, Tryz.ntmps90
    go_wp2
    go_region
    go_wp2
    go_ret2
    exact ⟨by rw [hn.out]; rfl, (Below.refl _ _).drew⟩
  by_cases h2 : most < s.size
  · have hn : Hid (numb ds.data.toList least most s.data.toList = none) := by show _ = _; unfold numb; rw [if_pos (.inr (.inl (by omega)))]
    go_enter Tryz.func90, Tryz.ntmps90
    go_wp2
    go_region
    go_wp2
    go_ret2
    exact ⟨by rw [hn.out]; rfl, (Below.refl _ _).drew⟩
  have hs0 : 0 < s.size := by omega
  have hd1 : 0 < ds.size := by omega
  have e1 : s.data.toList.headD 0 = s[0] := by rw [show s.data.toList = s.data.toList.drop 0 from rfl, drop_cons' s 0 hs0]; rfl
  have e2 : ds.data.toList.headD 0 = ds[0] := by rw [show ds.data.toList = ds.data.toList.drop 0 from rfl, drop_cons' ds 0 (by omega)]; rfl
  by_cases h3 : least < s.size ∧ s[0] = ds[0]
  · have hn : Hid (numb ds.data.toList least most s.data.toList = none) := by show _ = _; unfold numb; rw [e1, e2, if_pos (.inr (.inr ⟨by omega, h3.2⟩))]
    have h4 := h3.1
    have h5 : (((s[0].toNat : Nat) : Int) == ((ds[0].toNat : Nat) : Int)) = true := by rw [h3.2]; simp
    clear e1 e2
    go_enter Tryz.func90, Tryz.ntmps90
    go_wp2
    go_region
    go_wp2
    go_ret2
    exact ⟨by rw [hn.out]; rfl, (Below.refl _ _).drew⟩
  have hn : Hid (numb ds.data.toList least most s.data.toList = numLoop ds.data.toList s.data.toList 0) := by
    show _ = _
    unfold numb; rw [e1, e2, if_neg (by rw [hlen]; rintro (h | h | h); exact h1 h; exact h2 h; exact h3 h)]
  clear e1 e2
  have HL : Hid (∀ c, Lib.indexByte ds.data.toList c < ds.size) := fun c => by
    rcases indexByte_lt ds.data.toList c with h | h
    · exact h
    · rw [h] at hb'; simp at hb'; omega
  have h6 : s.size ≤ 7 := by omega
  have h7 : (¬ least < s.size) ∨ (least < s.size ∧ (((s[0].toNat : Nat) : Int) == ((ds[0].toNat : Nat) : Int)) = false) := by
    by_cases h : least < s.size
    · refine .inr ⟨h, ?_⟩
      have h8 : s[0] ≠ ds[0] := fun e => h3 ⟨h, e⟩
      have h9 : s[0].toNat ≠ ds[0].toNat := fun e => h8 (UInt8.toNat_inj.1 e)
      simp; omega
    · exact .inl h
  clear h3
  have HEND : Hid (∀ (n : Nat), numLoop ds.data.toList (s.data.toList.drop s.size) n = some n) := fun n => by rw [List.drop_eq_nil_of_le (by rw [hlen]; exact Nat.le_refl _)]; rfl
  generalize hD : ds.data.toList = D at *
  rcases h7 with h7 | ⟨h7, h8⟩
  all_goals
    go_enter Tryz.func90, Tryz.ntmps90
    go_wp2
    go_region
    go_wp2
    go_loopw [10, 38] (fun x y wr => ∃ k n : Nat, x = .int .i64 n ∧ y = .int .i64 k ∧ k ≤ s.size ∧ Hid (n < ds.size ^ k) ∧ Hid (numLoop D (s.data.toList.drop k) n = numLoop D s.data.toList 0) ∧ Below w.heap.size w wr) (fun _ y _ => s.size - (intOf y).toNat)
    case atStart => exact ⟨0, 0, rfl, rfl, Nat.zero_le _, Hid.mk' (by simp), Hid.mk' rfl, (Below.refl _ _).drew⟩
    case round =>
      obtain ⟨k, n, rfl, rfl, hk, hnb, hnl, hb⟩ := hrel
      by_cases hlt : k < s.size
      · have hx : Hid (Calls Tryz.prog 131 #[.string ds, .int .u8 ((s[k].toNat : Nat) : Int)] wr fun e w' => e = .returned (.int .i64 (Lib.indexByte D s[k])) ∧ w' = wr) := by
          have := Tryz.strings_IndexByte ds ((s[k].toNat : Nat) : Int) wr
          rw [hD, Lib.byte_back'] at this
          exact this
        have hstep : Hid (numLoop D (s.data.toList.drop k) n = if Lib.indexByte D s[k] < 0 then none else numLoop D (s.data.toList.drop (k + 1)) (n * ds.size + (Lib.indexByte D s[k]).toNat)) := by
          show _ = _
          rw [drop_cons' s k hlt, ← hb']
          rfl
        have hn1 := digit_small ds.size n k hd (by omega) hnb.out
        have hi1 := HL.out s[k]
        have hi2 := Lib.indexByte_ge D s[k]
        generalize Lib.indexByte D s[k] = ix at *
        rcases Int.lt_or_le ix 0 with hneg | hpos
        · have hres : Hid (numb D least most s.data.toList = none) := by show _ = _; rw [hn.out, ← hnl.out, hstep.out, if_pos hneg]
          clear hstep
          go_wp2_with (go_at_call 131; refine hx.out.mono ?_; rintro e w1 ⟨rfl, rfl⟩)
          go_ret2
          exact ⟨by rw [hres.out]; rfl, hb⟩
        · obtain ⟨j, rfl⟩ : ∃ j : Nat, ix = j := ⟨ix.toNat, by omega⟩
          have hres : Hid (numLoop D (s.data.toList.drop (k + 1)) (n * ds.size + j) = numLoop D s.data.toList 0) := by
            show _ = _; rw [← hnl.out, hstep.out, if_neg (by omega)]; simp
          have hnb' : Hid (n * ds.size + j < ds.size ^ (k + 1)) := digit_step _ _ _ _ (by omega) hnb.out
          clear hstep
          have hmul : n * ds.size ≤ 16777216 * 16 := Nat.mul_le_mul (by omega) hd
          have hmul2 : (n : Int) * (ds.size : Int) = ((n * ds.size : Nat) : Int) := by simp
          generalize hpp : n * ds.size = pp at *
          go_wp2_with (go_at_call 131; refine hx.out.mono ?_; rintro e w1 ⟨rfl, rfl⟩)
          go_roundw
          case rel => exact ⟨k + 1, pp + j, by go_num, by go_num, by omega, hnb', hres, hb⟩
          case measure => simp [intOf]; omega
      · obtain rfl : k = s.size := by omega
        have hres : Hid (numb D least most s.data.toList = some n) := by show _ = _; rw [hn.out, ← hnl.out, HEND.out n]
        go_wp2
        go_ret2
        exact ⟨by rw [hres.out]; rfl, hb⟩
end Go.Proofs.YtlnehhfljjeifaaGreatDoor

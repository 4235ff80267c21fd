/-
  What is proved here: what the laws of layer 3's awake answers.
-/
import Derived.Test.YtlnehhfljjeifaaGreatDoorP5
import Derived.Test.YtlnehhfljjeifaaGreatDoorR4
namespace Go.Proofs.YtlnehhfljjeifaaGreatDoor
open Go.RowKit

def exText : List UInt8 := [48, 48, 52, 49, 46, 46, 48, 48, 53, 65, 32, 51, 10]
theorem parse_ex : parseM exText = ([⟨65, 90, 3⟩], 0, 0) := by decide
theorem check_ex : chk [⟨5, 4, 0⟩] = (0, 4) := by decide
theorem find_ex : find [⟨65, 90, 3⟩] 66 = some 3 := by decide
theorem rises_one (r : Rg) : Rises [r] := fun i j hij hj => by
  simp at hj; obtain rfl : i = 0 := by omega
  obtain rfl : j = 0 := by omega
  exact Int.le_refl _
theorem apart_one (r : Rg) : Apart [r] := fun i j hij hj => by simp at hj; omega
theorem tab_new (w : World) (r : Rg) : Tab (w.alloc (.cells #[.int .i32 r.lo, .int .i32 r.hi, .int .i64 r.val] 28)) (.slice (some ⟨w.heap.size, 0, none⟩) 1 1) [r] := by
  refine ⟨some ⟨w.heap.size, 0, none⟩, 1, rfl, fun j hj => ⟨w.heap.size, 0, rfl, fun i hi => ?_⟩⟩
  obtain rfl : j = 0 := by simp at hj; omega
  rw [Nat.zero_mul, Nat.add_zero, Nat.zero_add, World.cell?_alloc_new]
  simp [Rg.cells]
set_option maxHeartbeats 1000000 in
theorem awake3_any (w : World) (p : Nat → Addr) (hg : Gl p w) (hm : Ml w) :
    Calls Tryz.prog 6 #[] w fun e w' => e = .returned (.bool true) ∧ Below w.heap.size w w' := by
  have HP : Hid (Calls Tryz.prog 10 #[.string ⟨#[48, 48, 52, 49, 46, 46, 48, 48, 53, 65, 32, 51, 10]⟩] w fun e w' => ∃ v, e = .returned (.tuple #[v, .nilIface]) ∧ Tab w' v [⟨65, 90, 3⟩] ∧ Below w.heap.size w w') := by
    refine (parse_any ⟨#[48, 48, 52, 49, 46, 46, 48, 48, 53, 65, 32, 51, 10]⟩ w p hg hm (by decide)).mono ?_
    rintro e w' ⟨v, fv, rfl, ht, hsay, hb⟩
    have e1 : parseM (⟨#[48, 48, 52, 49, 46, 46, 48, 48, 53, 65, 32, 51, 10]⟩ : ByteArray).data.toList = ([⟨65, 90, 3⟩], 0, 0) := parse_ex
    rw [e1] at ht hsay
    rcases hsay with ⟨-, rfl⟩ | ⟨h, -⟩
    · exact ⟨v, rfl, ht, hb⟩
    · simp at h
  have HF : Hid (∀ w1 v, Tab w1 v [⟨65, 90, 3⟩] → Calls Tryz.prog 19 #[v, .int .i32 66] w1 fun e w' => e = .returned (.tuple #[.int .i64 3, .bool true]) ∧ Below w1.heap.size w1 w') := fun w1 v ht => by
    have := find_any v [⟨65, 90, 3⟩] 66 w1 ht (by decide) (rises_one _) (apart_one _)
    rw [find_ex] at this
    exact this
  have HC : Hid (∀ w1, Below w.heap.size w w1 → Calls Tryz.prog 20 #[.slice (some ⟨w1.heap.size, 0, none⟩) 1 1] (w1.alloc (.cells #[.int .i32 5, .int .i32 4, .int .i64 0] 28)) fun e w' => ∃ fv, e = .returned fv ∧ Flt w' fv (w1.heap.size + 1) 0 (p 4) ∧ Below (w1.heap.size + 1) (w1.alloc (.cells #[.int .i32 5, .int .i32 4, .int .i64 0] 28)) w') := fun w1 hb => by
    have := check_any (.slice (some ⟨w1.heap.size, 0, none⟩) 1 1) [⟨5, 4, 0⟩] (w1.alloc (.cells #[.int .i32 5, .int .i32 4, .int .i64 0] 28)) p (hg.below (hb.alloc hb.size _)) (tab_new w1 ⟨5, 4, 0⟩) (by decide)
    rw [check_ex, World.size_alloc] at this
    refine this.mono ?_
    rintro e w' ⟨fv, rfl, hsay, hb⟩
    rcases hsay with ⟨h, -⟩ | ⟨-, h⟩
    · simp at h
    · exact ⟨fv, rfl, h, hb⟩
  have HI : Hid (∀ w1 v B, Below w.heap.size w w1 → Flt w1 v B 0 (p 4) → _) := fun w1 v B hb hf => lawIs_fault v B 0 4 w1 p (hg.below hb) (.inr (.inl rfl)) hf
  clear hg hm
  go_enter Tryz.func6, Tryz.ntmps6
  go_wp2_with fail
  refine HP.out.mono ?_
  rintro e w1 ⟨v, rfl, ht, hb1⟩
  have HF1 := Hid.mk' (HF.out w1 v ht)
  obtain ⟨a, cap, rfl, -⟩ := ht
  go_wp2_with fail
  refine HF1.out.mono ?_
  rintro e w2 ⟨rfl, hb2⟩
  have hbw := hb1.trans (hb2.mono hb1.size)
  go_wp2_with fail
  refine (HC.out w2 hbw).mono ?_
  rintro e w3 ⟨fv, rfl, hf, hb3⟩
  have hb4 : Below w.heap.size w w3 := (hbw.alloc hbw.size _).trans (hb3.mono (Nat.le_trans hbw.size (Nat.le_succ _)))
  have HI1 := Hid.mk' (HI.out w3 _ _ hb4 hf)
  obtain ⟨bb, -, rfl, -, -⟩ := hf
  go_wp2_with fail
  refine HI1.out.mono ?_
  rintro e w4 ⟨rfl, hb5⟩
  go_wp2
  go_ret
  exact ⟨rfl, hb4.trans (hb5.mono hb4.size)⟩
end Go.Proofs.YtlnehhfljjeifaaGreatDoor

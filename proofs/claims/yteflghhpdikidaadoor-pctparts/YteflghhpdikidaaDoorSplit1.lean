/-
  What is proved here: what strings.Split answers at a separator of one byte, what pct.Split's closure answers, and what pct.Split answers at a byte by which no text may be split.
-/
import Derived.Test.YteflghhpdikidaaDoorShelf
import Derived.Test.YteflghhpdikidaaDoorCut0
import Derived.Test.YteflghhpdikidaaDoorEsc2
import Derived.Test.YteflghhpdikidaaDoorPlaced
import Derived.Test.YteflghhpdikidaaDoorLawU
namespace Go.Proofs.YteflghhpdikidaaDoor
open Go.RowKit

/-- a list of bytes as a text -/
def toB (l : List UInt8) : ByteArray := ⟨l.toArray⟩
theorem toB_data (l : List UInt8) : (toB l).data.toList = l := rfl
theorem toB_size (l : List UInt8) : (toB l).size = l.length := by simp [toB, ByteArray.size]
theorem toB_back (s : ByteArray) : toB s.data.toList = s := rfl
theorem splitB_cut (b : UInt8) (s : ByteArray) : Lib.splitB ⟨#[b]⟩ 0 (Lib.countB s ⟨#[b]⟩) s = (Pct.cut b s.data.toList).map toB := by
  have h1 := Lib.splitB_data ⟨#[b]⟩ 0 (Lib.countB s ⟨#[b]⟩) s
  have h2 := Pct.splitK_cut b s.data.toList
  have h3 : (Lib.splitB ⟨#[b]⟩ 0 (Lib.countB s ⟨#[b]⟩) s).map (fun x => x.data.toList) = Pct.cut b s.data.toList := h1.trans h2
  have h4 := congrArg (List.map toB) h3
  rw [List.map_map] at h4
  rw [← h4]
  exact (List.map_id _).symm
theorem libSplit_any (s : ByteArray) (b : UInt8) (w : World) (hs : s.size ≤ 1000) (hm : ∃ m, w.cell? ⟨19, 0, none⟩ = some (.int .i64 m)) :
    Calls Tryd.prog 35 #[.string s, .string ⟨#[b]⟩] w fun e w' => e = .returned (.slice (some ⟨w.heap.size, 0, none⟩) (Pct.cut b s.data.toList).length (Pct.cut b s.data.toList).length) ∧ w.alloc (.cells (((Pct.cut b s.data.toList).map toB).map Value.string).toArray 9) = w' := by
  obtain ⟨m, hm⟩ := hm
  refine (Tryd.strings_Split s ⟨#[b]⟩ m w (by omega) hm (Nat.le_refl 1)).mono ?_
  rintro e w' ⟨rfl, rfl⟩
  have hl := Lib.splitB_all ⟨#[b]⟩ (Nat.le_refl 1) 0 _ s rfl
  rw [splitB_cut, List.length_map] at hl
  rw [splitB_cut, ← hl]
  exact ⟨rfl, rfl⟩

theorem enters_split1 : ∀ args w, (callFunc 37 args).run Tryd.prog w = .ok (.enter 37 args) w := enters_of Tryd.func37 (by kernel_rfl) rfl
set_option maxHeartbeats 400000 in
theorem split1_any (B : Nat) (a k : Int) (w : World) (ha : 0 ≤ a) (ha2 : a ≤ 4294967296) (hk : 0 ≤ k) (hk2 : k ≤ 4294967296) (hc : w.cell? ⟨B, 0, none⟩ = some (.int .i64 a)) :
    Calls Tryd.prog 37 #[.int .i64 k, .pointer (some ⟨B, 0, none⟩)] w fun e w' => e = .returned (.int .i64 (a + k)) ∧ Below w.heap.size w w' := by
  go_enter Tryd.func37, Tryd.ntmps37
  go_wp2
  go_ret
  exact ⟨rfl, Below.refl _ _⟩

def smallHex : ByteArray := ⟨#[97, 98, 99, 100, 101, 102]⟩
theorem hex_any : ∀ n : Nat, n < 256 → ((capHex.data.toList.any fun c => c.toNat == n) || smallHex.data.toList.any fun c => c.toNat == n) = (Pct.hex n).isSome := by decide +kernel

set_option maxRecDepth 20000 in
set_option maxHeartbeats 1000000 in
theorem split_bad (s : ByteArray) (b : UInt8) (w : World) (p : Nat → Addr) (hg : Gl p w) (hb : b.toNat = 37 ∨ Pct.hex b.toNat ≠ none) :
    Calls Tryd.prog 19 #[.string s, .int .u8 b.toNat] w fun e w' => ∃ v, e = .returned (.tuple #[.slice none 0 0, v]) ∧ Flt w' v w.heap.size 0 (p 1) ∧ Below w.heap.size w w' := by
  have hb256 : b.toNat < 256 := b.toNat_lt
  have hix := run_index_bools (hasB [capHex, smallHex]) b.toNat hb256
  rw [hasB_two, hex_any _ hb256] at hix
  have HS := Hid.mk' (setOf_any _ [capHex, smallHex] _ (texts_new w [capHex, smallHex] 9) (by simp) (by intro s hs; simp at hs; rcases hs with rfl | rfl <;> decide))
  have hb0 := fun o => (Below.refl _ w).alloc (Nat.le_refl _) o
  have HG := Hid.mk' hg
  clear hg
  generalize hasB [capHex, smallHex] = F at HS hix
  by_cases hh : (Pct.hex b.toNat).isSome = true
  · rw [hh] at hix
    clear hb hh
    go_enter Tryd.func19, Tryd.ntmps19
    go_wp2_with fail
    refine HS.out.mono ?_
    rintro e w1 ⟨rfl, hb1⟩
    have h1 := (hb0 _).trans (hb1.mono (by simp))
    have g1 := (HG.out.below h1).g1
    go_wp2
    go_region
    go_wp2
    go_ret2
    exact ⟨_, rfl, ⟨w1.heap.size, h1.size, rfl, by simp, by simp⟩, (h1.alloc h1.size _).drew⟩
  · have hn : (Pct.hex b.toNat).isSome = false := by simpa using hh
    rw [hn] at hix
    have h37 : b.toNat = 37 := by
      rcases hb with h | h
      · exact h
      · cases hx : Pct.hex b.toNat <;> simp [hx] at *
    have hz : ((b.toNat : Int) == 37) = true := by simp; omega
    clear hb hh hn h37
    go_enter Tryd.func19, Tryd.ntmps19
    go_wp2_with fail
    refine HS.out.mono ?_
    rintro e w1 ⟨rfl, hb1⟩
    have h1 := (hb0 _).trans (hb1.mono (by simp))
    have g1 := (HG.out.below h1).g1
    go_wp2
    go_region
    go_wp2
    go_ret2
    exact ⟨_, rfl, ⟨w1.heap.size, h1.size, rfl, by simp, by simp⟩, (h1.alloc h1.size _).drew⟩
end Go.Proofs.YteflghhpdikidaaDoor

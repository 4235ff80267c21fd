/-
  What is proved here: what the reference's good answers; what is wrong with a value by itself, as the reference says.
-/
import Derived.Test.YtjjoedkigjekcaaGreatDoorJ5
import Derived.Test.YtjjoedkigjekcaaGreatDoorJ6
import Derived.Test.YtjjoedkigjekcaaGreatDoorMR
namespace Go.Proofs.YtjjoedkigjekcaaGreatDoor
open Go.RowKit

/-- is a text well-formed? -/
def gd (s : List UInt8) : Bool := (Utf.dec s 0).2.2 == 0
set_option maxHeartbeats 1000000 in
theorem good_any (s : List UInt8) (w : World) (hs : s.length ≤ 4000) :
    Calls Tryz.prog 69 #[.string (strL s)] w fun e w' => e = .returned (.bool (gd s)) ∧ Below w.heap.size w w' := by
  have hd := refDecode_any (strL s) w hs
  have hg : gd s = ((Utf.dec (strL s).data.toList 0).2.2 == 0) := rfl
  rw [hg]
  generalize Utf.dec (strL s).data.toList 0 = x at *
  generalize strL s = S at *
  have HD := Hid.mk' hd
  clear hd hg
  go_enter Tryz.func69, Tryz.ntmps69
  go_wp2_with fail
  refine HD.out.mono ?_
  rintro e w1 ⟨hb, ⟨h0, v, rfl, -⟩ | ⟨h0, rfl⟩⟩
  · go_wp2
    go_ret
    exact ⟨ret_bool (by rw [h0]; rfl), hb⟩
  · have h0b : ((x.2.2 : Int) == 0) = false := by simp; omega
    have h1 : (x.2.2 == 0) = false := by simp; omega
    go_wp2
    go_ret
    exact ⟨ret_bool (by first | rw [h1] | rfl), hb⟩
/-- a text's emptiness, as the walk asks -/
theorem empty_cases (s : List UInt8) : s = [] ∨ (s ≠ [] ∧ (strL s).toList.isEmpty = false) := by
  rcases s with _ | ⟨b, s⟩
  · exact .inl rfl
  · refine .inr ⟨by simp, ?_⟩
    rw [ByteArray.toList_eq]
    rfl
end Go.Proofs.YtjjoedkigjekcaaGreatDoor

/-
  What is proved here: what syllable and One answer.
-/
import Derived.Test.YtlnehhfljjeifaaDoorAM
import Derived.Test.YtlnehhfljjeifaaDoorShelf
import Derived.Lib.OwnBridge
namespace Go.Proofs.YtlnehhfljjeifaaDoor
open Go.RowKit Go.Sort

/-- a slice of new memory -/
theorem own_new (w : World) (B : Nat) (xs : List Value) (t : TypeId) (hB : B ≤ w.heap.size) (hl : xs.length ≤ maxLen) : (w.alloc (.cells xs.toArray t)).ownsRow B t 1 (.slice (some ⟨w.heap.size, 0, none⟩) xs.length xs.length) xs.length xs := by
  refine ⟨by simp, .inr ⟨w.heap.size, xs.length, xs.toArray, rfl, hB, Array.getElem?_push_size, Nat.le_refl _, hl, by simp, by simp⟩⟩
theorem own_weaken {w : World} {B B' : Nat} {e : TypeId} {k n : Nat} {v : Value} {xs : List Value} (h : w.ownsRow B' e k v n xs) (hB : B ≤ B') : w.ownsRow B e k v n xs := by
  refine ⟨h.1, ?_⟩
  rcases h.2 with h | ⟨g, cap, cur, h1, h2, h3⟩
  · exact .inl h
  · exact .inr ⟨g, cap, cur, h1, by omega, h3⟩
end Go.Proofs.YtlnehhfljjeifaaDoor

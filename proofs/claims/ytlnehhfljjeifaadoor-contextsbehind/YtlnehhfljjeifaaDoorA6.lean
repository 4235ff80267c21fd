/-
  What is proved here: what One answers at a norm whose rows are right.
-/
import Derived.Test.YtlnehhfljjeifaaDoorA5
namespace Go.Proofs.YtlnehhfljjeifaaDoor
open Go.RowKit Go.Sort

theorem rw_take (l : List Rw) (k i : Nat) (hi : i < k) : rw_ (l.take k) i = rw_ l i := by
  unfold rw_; rw [List.getD, List.getD, List.getElem?_take, if_pos hi]
theorem Rows4.pre {w : World} {a : Option Addr} {cap : Nat} {l : List Rw} {k : Nat} (h : Rows4 w (.slice a l.length cap) l) (hk : k ≤ l.length) : Rows4 w (.slice a k cap) (l.take k) := by
  obtain ⟨a', cap', e, h⟩ := h
  obtain ⟨rfl, rfl⟩ : a = a' ∧ cap = cap' := by simpa using e
  have hlen : (l.take k).length = k := by simp; omega
  refine ⟨a, cap, by rw [hlen], fun j hj => ?_⟩
  rw [hlen] at hj
  rw [rw_take l k j hj]
  exact h j (by omega)
theorem rise_le {l : List Rw} {k : Nat} (h : RiseR l k) : ∀ i j, i ≤ j → j < k → (rw_ l i).fr ≤ (rw_ l j).fr := fun i j hij hj => by
  rcases Nat.eq_or_lt_of_le hij with rfl | g
  · exact Int.le_refl _
  · exact Int.le_of_lt (h i j g hj)
/-- seek among the first k rows -/
theorem seekPre_any (a : Option Addr) (cap : Nat) (l : List Rw) (k : Nat) (r : Int) (w : World) (hT : Rows4 w (.slice a l.length cap) l) (hk : k ≤ l.length) (hl : l.length ≤ 2147483648) (hm : RiseR l k) :
    Calls Tryd.prog 57 #[.slice a k cap, .int .i32 r, .func (.func 58) #[] #[]] w fun e w' => (∃ x, e = .returned (.int .i64 x) ∧ Sought k (fun i => (rw_ l i).fr) r x) ∧ Below w.heap.size w w' := by
  have hlen : (l.take k).length = k := by simp; omega
  refine (seekRow_any (.slice a k cap) (l.take k) r w (hT.pre hk) (by omega) (fun i j hij hj => ?_)).mono ?_
  · rw [hlen] at hj
    rw [rw_take l k i (by omega), rw_take l k j hj]
    exact rise_le hm i j hij hj
  · rintro e w' ⟨⟨x, rfl, h⟩, hb⟩
    rw [hlen] at h
    refine ⟨⟨x, rfl, ?_⟩, hb⟩
    rcases h with ⟨i, h1, h2, h3⟩ | ⟨h1, h2⟩
    · exact .inl ⟨i, h1, h2, by show (rw_ l i).fr = r; rw [← rw_take l k i h2]; exact h3⟩
    · exact .inr ⟨h1, fun i hi => by show (rw_ l i).fr ≠ r; rw [← rw_take l k i hi]; exact h2 i hi⟩
theorem own_slice {w : World} {B : Nat} {E : TypeId} {v : Value} {n : Nat} {xs : List Value} (h : w.ownsRow B E 1 v n xs) : ∃ a c, v = .slice a n c := by
  rcases h.2 with ⟨rfl, rfl⟩ | ⟨g, cap, cur, rfl, _⟩
  · exact ⟨_, _, rfl⟩
  · exact ⟨_, _, rfl⟩
end Go.Proofs.YtlnehhfljjeifaaDoor

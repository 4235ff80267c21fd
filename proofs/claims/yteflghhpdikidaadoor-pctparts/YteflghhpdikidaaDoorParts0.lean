/-
  What is proved here: plain facts on texts that were escaped with nothing kept and put together with a byte between.
-/
import Derived.Test.YteflghhpdikidaaDoorCut0
import Derived.Test.YteflghhpdikidaaDoorEsc0
namespace Go.Proofs.YteflghhpdikidaaDoor.Pct

theorem cut_app (b : UInt8) (y : List UInt8) : ∀ x : List UInt8, cut b (x ++ b :: y) = cut b x ++ cut b y := by
  intro x
  induction x with
  | nil => simp [cut]
  | cons c t ih =>
    by_cases h : c = b
    · simp [cut, h, ih]
    · simp only [List.cons_append, cut, if_neg h, ih]
      cases hc : cut b t with
      | nil => exact absurd hc (cut_ne b t)
      | cons q qs => simp
theorem cut_one (b : UInt8) : ∀ x : List UInt8, b ∉ x → cut b x = [x] := by
  intro x
  induction x with
  | nil => intro _; rfl
  | cons c t ih =>
    intro h
    have h1 : c ≠ b := fun e => h (by simp [e])
    have h2 : b ∉ t := fun e => h (by simp [e])
    simp [cut, h1, ih h2]
theorem hexD_plain : ∀ n : Nat, n < 16 → plain (hexD n).toNat = true := by decide +kernel
theorem hex_plain : ∀ n : Nat, n < 256 → plain n = false → hex n = none := by decide +kernel
theorem esf_not (b : UInt8) (h37 : b.toNat ≠ 37) (hp : plain b.toNat = false) (l : List UInt8) : b ∉ esf [] l := by
  intro h
  obtain ⟨c, _, hc⟩ := List.mem_flatMap.1 h
  unfold form at hc
  split at hc
  · rename_i hs
    rw [List.mem_singleton.1 hc] at hp
    unfold stay at hs
    simp [hp] at hs
  · have hlt := c.toNat_lt
    simp only [List.mem_cons, List.mem_nil_iff, or_false] at hc
    rcases hc with rfl | rfl | rfl
    · exact h37 rfl
    · rw [hexD_plain _ (by omega)] at hp; cases hp
    · rw [hexD_plain _ (by omega)] at hp; cases hp
/-- the first texts of a row, escaped and put together -/
def jn (b : UInt8) (ls : List (List UInt8)) : Nat → List UInt8
  | 0 => []
  | k + 1 => if k = 0 then esf [] (ls.getD k []) else jn b ls k ++ b :: esf [] (ls.getD k [])
theorem cut_jn (b : UInt8) (h37 : b.toNat ≠ 37) (hp : plain b.toNat = false) (ls : List (List UInt8)) : ∀ k, k < ls.length → cut b (jn b ls (k + 1)) = (ls.take (k + 1)).map (esf []) := by
  intro k
  induction k with
  | zero =>
    intro h
    rw [jn, if_pos rfl, cut_one b _ (esf_not b h37 hp _)]
    cases ls with
    | nil => simp at h
    | cons a t => simp
  | succ k ih =>
    intro h
    rw [jn, if_neg (by omega), cut_app, ih (by omega), cut_one b _ (esf_not b h37 hp _), List.take_succ_eq_append_getElem h, List.map_append]
    simp [List.getD, h]
theorem spl_esf (ls : List (List UInt8)) : ∀ a, spl (ls.map (esf [])) a = (ls.map fun l => ⟨l.toArray⟩, 0, 0) := by
  induction ls with
  | nil => intro a; rfl
  | cons l ls ih =>
    intro a
    rw [List.map_cons, spl_ok _ _ (un_esf [] l 0), ih, spots_map]
    simp [glueS]
end Go.Proofs.YteflghhpdikidaaDoor.Pct

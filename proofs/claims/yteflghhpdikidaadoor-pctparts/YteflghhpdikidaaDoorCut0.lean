/-
  What is proved here: plain facts on a text's parts by a byte. No program is in it but the library's own words for strings.Split.
-/
import Derived.Test.YteflghhpdikidaaDoorPct0
import Derived.Lib.SplitLaws
namespace Go.Proofs.YteflghhpdikidaaDoor.Pct

/-- a text's parts by a byte -/
def cut (b : UInt8) : List UInt8 → List (List UInt8)
  | [] => [[]]
  | c :: t => if c = b then [] :: cut b t else ((cut b t).headD [] |> List.cons c) :: (cut b t).tail
theorem cut_ne (b : UInt8) (l : List UInt8) : cut b l ≠ [] := by cases l <;> simp [cut]; split <;> simp
theorem cut_len (b : UInt8) (l : List UInt8) : (cut b l).length ≤ l.length + 1 := by
  induction l with
  | nil => simp [cut]
  | cons c t ih =>
    have : 0 < (cut b t).length := List.length_pos_iff.2 (cut_ne b t)
    simp only [cut]
    split <;> simp <;> omega
theorem cut_part (b : UInt8) (l : List UInt8) : ∀ p ∈ cut b l, p.length ≤ l.length := by
  induction l with
  | nil => simp [cut]
  | cons c t ih =>
    intro p hp
    simp only [cut] at hp
    split at hp
    · rcases List.mem_cons.1 hp with rfl | h
      · simp
      · have := ih p h; simp; omega
    · rcases List.mem_cons.1 hp with rfl | h
      · have hh : ((cut b t).headD []).length ≤ t.length := by
          cases hc : cut b t with
          | nil => simp
          | cons q qs => exact ih q (by rw [hc]; simp)
        show (c :: (cut b t).headD []).length ≤ (c :: t).length
        simp only [List.length_cons]; omega
      · have := ih p (List.mem_of_mem_tail h); simp; omega

theorem splitK_cut (b : UInt8) (l : List UInt8) : Lib.splitK [b] 0 (Lib.count l [b]) l = cut b l := by
  induction l with
  | nil => rfl
  | cons c t ih =>
    by_cases h : c = b
    · subst h
      rw [Lib.count_cons_eq, Nat.add_comm, Lib.splitK, Lib.index_one]
      simp only [Lib.indexByte, cut]
      simp
      exact ih
    · rw [Lib.count_cons_ne c b t h]
      rw [cut, if_neg h, ← ih]
      cases hk : Lib.count t [b] with
      | zero => simp [Lib.splitK]
      | succ k =>
        rw [Lib.splitK, Lib.splitK, Lib.index_one, Lib.index_one]
        have hi : Lib.indexByte (c :: t) b = if Lib.indexByte t b == -1 then -1 else Lib.indexByte t b + 1 := by
          simp only [Lib.indexByte]
          simp [h]
        rw [hi]
        by_cases hm : Lib.indexByte t b = -1
        · simp [hm]
        · have hge := Lib.indexByte_ge t b
          obtain ⟨i, hi2⟩ : ∃ i : Nat, Lib.indexByte t b = i := ⟨(Lib.indexByte t b).toNat, by omega⟩
          rw [hi2]
          have h1 : ¬ ((i : Int) == -1) = true := by simp
          have h2 : ¬ ((i : Int) + 1 == -1) = true := by simp; omega
          rw [if_neg h1, if_neg h1, if_neg h2]
          have h3 : ((i : Int) + 1).toNat = i + 1 := by omega
          rw [h3, Int.toNat_natCast]
          simp

/-- a list behind another, if nothing is wrong -/
def glueS (l : List ByteArray) (r : List ByteArray × Nat × Nat) : List ByteArray × Nat × Nat := if r.2.2 = 0 then (l ++ r.1, 0, 0) else ([], r.2.1, r.2.2)
/-- parts, each unescaped, the places counted on; or what is wrong first -/
def spl : List (List UInt8) → Nat → List ByteArray × Nat × Nat
  | [], _ => ([], 0, 0)
  | p :: ps, a => if (un p 0).2.2 = 0 then glueS [⟨((un p 0).1.map (·.2)).toArray⟩] (spl ps (a + p.length + 1)) else ([], a + (un p 0).2.1, (un p 0).2.2)
theorem glueS_glueS (l m : List ByteArray) (r : List ByteArray × Nat × Nat) : glueS l (glueS m r) = glueS (l ++ m) r := by
  unfold glueS
  by_cases h : r.2.2 = 0 <;> simp [h]
theorem glueS_nil (l : List ByteArray) : glueS l ([], 0, 0) = (l, 0, 0) := by simp [glueS]
theorem glueS_bad (l : List ByteArray) (k c : Nat) (h : c ≠ 0) : glueS l ([], k, c) = ([], k, c) := by simp [glueS, h]
theorem spl_shape (ps : List (List UInt8)) (a : Nat) : ((spl ps a).2.2 = 0 → (spl ps a).2.1 = 0) ∧ ((spl ps a).2.2 ≠ 0 → (spl ps a).1 = []) := by
  cases ps with
  | nil => simp [spl]
  | cons p ps => simp only [spl]; unfold glueS; (repeat' split) <;> simp <;> omega
theorem spl_start (ps : List (List UInt8)) : spl ps 0 = glueS [] (spl ps 0) := by
  obtain ⟨h1, h2⟩ := spl_shape ps 0
  unfold glueS
  by_cases h : (spl ps 0).2.2 = 0
  · simp [h]; exact Prod.ext rfl (Prod.ext (h1 h) h)
  · simp [h]; exact Prod.ext (h2 h) rfl
theorem spl_ok {p : List UInt8} (ps : List (List UInt8)) (a : Nat) {l : List (Nat × UInt8)} (h : un p 0 = (l, 0, 0)) : spl (p :: ps) a = glueS [⟨(l.map (·.2)).toArray⟩] (spl ps (a + p.length + 1)) := by
  simp only [spl]; rw [h]; simp
theorem spl_bad {p : List UInt8} (ps : List (List UInt8)) (a : Nat) {k c : Nat} (h : un p 0 = ([], k, c)) (hc : c ≠ 0) : spl (p :: ps) a = ([], a + k, c) := by
  simp only [spl]; rw [h]; simp [hc]
/-- what Split answers -/
def split (b : UInt8) (l : List UInt8) : List ByteArray × Nat × Nat := if b.toNat = 37 ∨ hex b.toNat ≠ none then ([], 0, 1) else spl (cut b l) 0
end Go.Proofs.YteflghhpdikidaaDoor.Pct

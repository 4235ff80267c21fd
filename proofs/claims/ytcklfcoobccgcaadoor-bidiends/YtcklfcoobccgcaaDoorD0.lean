/-
  What is proved here: plain mathematics of labels that are read from the right (no program): directions, where a label ends, which rule it breaks, and where; what follows of it.
-/
import Derived.Test.YtcklfcoobccgcaaDoorK0
namespace Go.Proofs.YtcklfcoobccgcaaDoor

/-- a rune's direction, by the table of directions -/
def dirM (l : List Rg) (r : Int) : Int := (find l r).getD 1
def dirsM (l : List Rg) (rs : List Int) : List Int := rs.map (dirM l)
theorem dirsM_len (l : List Rg) (rs : List Int) : (dirsM l rs).length = rs.length := by simp [dirsM]
theorem dirsM_at {l : List Rg} {rs : List Int} {i : Nat} (h : i < rs.length) : (dirsM l rs).getD i 0 = dirM l (rs.getD i 0) := by
  simp [dirsM, List.getD, List.getElem?_eq_getElem h]
/-- all are directions -/
def Dirs (ds : List Int) : Prop := ∀ i, i < ds.length → 1 ≤ ds.getD i 0 ∧ ds.getD i 0 ≤ 11
theorem dirM_range {t : Nat → List Rg} (h : (chk7 t).2 = 0) (r : Int) : 1 ≤ dirM (t 9) r ∧ dirM (t 9) r ≤ 11 := by
  unfold dirM
  cases e : find (t 9) r with
  | none => exact ⟨by decide, by decide⟩
  | some v =>
    obtain ⟨j, hj, rfl⟩ := find_val e
    have := (right7 h 9 (by omega)).2.2.2 j hj
    unfold kindAt at this
    split at this
    · omega
    · rename_i g
      have g2 : ¬ (((t 9).getD j default).val < 1 ∨ ((11 : Nat) : Int) < ((t 9).getD j default).val) := fun q => g ⟨by decide, q⟩
      show 1 ≤ ((t 9).getD j default).val ∧ ((t 9).getD j default).val ≤ 11
      omega
theorem dirsM_dirs {t : Nat → List Rg} (h : (chk7 t).2 = 0) (rs : List Int) : Dirs (dirsM (t 9) rs) := fun i hi => by
  rw [dirsM_len] at hi
  rw [dirsM_at hi]
  exact dirM_range h _
/-- the first of n numbers at which it holds; -1: none -/
def idxN (n : Nat) (g : Nat → Bool) : Int := match (List.range n).find? g with
  | some i => (i : Int)
  | none => -1
theorem idxN_at {n : Nat} {g : Nat → Bool} {k : Nat} (hk : k < n) (h0 : ∀ i, i < k → g i = false) (h : g k = true) : idxN n g = k := by
  have e : (List.range n).find? g = some k := by
    rw [List.find?_eq_some_iff_getElem]
    refine ⟨h, k, by simpa using hk, by simp, fun j hj => by have := h0 j hj; simpa using this⟩
  unfold idxN; rw [e]
theorem idxN_none {n : Nat} {g : Nat → Bool} (h0 : ∀ i, i < n → g i = false) : idxN n g = -1 := by
  have e : (List.range n).find? g = none := by
    rw [List.find?_eq_none]
    intro x hx
    have := h0 x (by simpa using hx)
    simp [this]
  unfold idxN; rw [e]
theorem idxN_cases (n : Nat) (g : Nat → Bool) : (idxN n g = -1 ∧ ∀ i, i < n → g i = false) ∨ (∃ k, k < n ∧ idxN n g = (k : Int) ∧ g k = true ∧ ∀ i, i < k → g i = false) := by
  unfold idxN
  cases e : (List.range n).find? g with
  | some i =>
    obtain ⟨h1, k, hk, e1, h2⟩ := List.find?_eq_some_iff_getElem.1 e
    simp at e1 hk
    subst e1
    refine .inr ⟨k, hk, rfl, h1, fun j hj => ?_⟩
    have := h2 j hj
    simpa using this
  | none =>
    rw [List.find?_eq_none] at e
    refine .inl ⟨rfl, fun j hj => ?_⟩
    have := e j (by simpa using hj)
    simpa using this
theorem idxN_congr {n : Nat} {g h : Nat → Bool} (e : ∀ i, i < n → g i = h i) : idxN n g = idxN n h := by
  rcases idxN_cases n g with ⟨q, q0⟩ | ⟨k, hk, q, q1, q2⟩
  · rw [q, idxN_none (fun i hi => by rw [← e i hi]; exact q0 i hi)]
  · rw [q, idxN_at hk (fun i hi => by rw [← e i (by omega)]; exact q2 i hi) (by rw [← e k hk]; exact q1)]
theorem idxN_range (n : Nat) (g : Nat → Bool) : -1 ≤ idxN n g ∧ idxN n g < n ∨ idxN n g = -1 := by
  rcases idxN_cases n g with ⟨q, -⟩ | ⟨k, hk, q, -, -⟩ <;> omega
/-- is it so of one of them? -/
def anyN (n : Nat) (g : Nat → Bool) : Bool := decide (0 ≤ idxN n g)
theorem anyN_at {n : Nat} {g : Nat → Bool} {k : Nat} (hk : k < n) (h : g k = true) : anyN n g = true := by
  unfold anyN
  rcases idxN_cases n g with ⟨-, q0⟩ | ⟨j, hj, q, -, -⟩
  · rw [q0 k hk] at h; cases h
  · rw [q]; exact decide_eq_true (by omega)
theorem anyN_none {n : Nat} {g : Nat → Bool} (h0 : ∀ i, i < n → g i = false) : anyN n g = false := by
  unfold anyN; rw [idxN_none h0]; rfl
theorem anyN_iff (n : Nat) (g : Nat → Bool) : anyN n g = true ↔ ∃ k, k < n ∧ g k = true := by
  constructor
  · intro h
    rcases idxN_cases n g with ⟨q, -⟩ | ⟨j, hj, q, q1, -⟩
    · unfold anyN at h; rw [q] at h; exact absurd h (by decide)
    · exact ⟨j, hj, q1⟩
  · rintro ⟨k, hk, h⟩; exact anyN_at hk h
theorem anyN_congr {n : Nat} {g h : Nat → Bool} (e : ∀ i, i < n → g i = h i) : anyN n g = anyN n h := by
  unfold anyN; rw [idxN_congr e]

/-- L -/
def isL (d : Int) : Bool := d == 1
/-- of the right: R, AL or AN -/
def isR (d : Int) : Bool := (d == 2 || d == 3) || d == 5
/-- the number of the last one of the first n that isn't NSM, 0 if there is none -/
def endF (ds : List Int) : Nat → Nat
  | 0 => 0
  | n + 1 => if ds.getD n 0 = 10 then endF ds n else n
def endM (ds : List Int) : Nat := endF ds ds.length
theorem endF_le (ds : List Int) : ∀ n, endF ds n ≤ n - 1
  | 0 => by simp [endF]
  | n + 1 => by
    have := endF_le ds n
    unfold endF
    split <;> omega
theorem endF_lt {ds : List Int} {n : Nat} (h : 0 < n) : endF ds n < n := by have := endF_le ds n; omega
theorem endF_not {ds : List Int} (h0 : ds.getD 0 0 ≠ 10) : ∀ n, ds.getD (endF ds n) 0 ≠ 10
  | 0 => by simpa [endF] using h0
  | n + 1 => by
    unfold endF
    split
    · exact endF_not h0 n
    · rename_i h; exact h
theorem endF_hit {ds : List Int} {n : Nat} (h : ds.getD n 0 ≠ 10) : endF ds (n + 1) = n := by rw [endF, if_neg h]
theorem endF_pass {ds : List Int} {n : Nat} (h : ds.getD n 0 = 10) : endF ds (n + 1) = endF ds n := by rw [endF, if_pos h]
/-- was a direction seen among the first n? -/
def seenB (ds : List Int) (d : Int) (n : Nat) : Bool := (List.range n).any fun i => ds.getD i 0 == d
theorem seenB_succ (ds : List Int) (d : Int) (n : Nat) : seenB ds d (n + 1) = (seenB ds d n || ds.getD n 0 == d) := by
  simp [seenB, List.range_succ, List.any_append]
theorem seenB_zero (ds : List Int) (d : Int) : seenB ds d 0 = false := rfl
/-- were an EN and an AN seen, behind the rune number i? -/
def bothB (ds : List Int) (i : Nat) : Bool := seenB ds 4 (i + 1) && seenB ds 5 (i + 1)
/-- WHICH RULE A LABEL BREAKS, AND WHERE, by its runes' directions -/
def brkM (ds : List Int) : Int × Int :=
  if ds.length = 0 then (1, 0)
  else if 3 < ds.getD 0 0 then (1, 0)
  else if 1 < ds.getD 0 0 then
    if 0 ≤ idxN ds.length (fun i => isL (ds.getD i 0)) then (2, idxN ds.length (fun i => isL (ds.getD i 0)))
    else if 5 < ds.getD (endM ds) 0 then (3, (endM ds : Int))
    else if 0 ≤ idxN ds.length (bothB ds) then (4, idxN ds.length (bothB ds))
    else (0, 0)
  else if 0 ≤ idxN ds.length (fun i => isR (ds.getD i 0)) then (5, idxN ds.length (fun i => isR (ds.getD i 0)))
  else if ds.getD (endM ds) 0 ≠ 1 ∧ ds.getD (endM ds) 0 ≠ 4 then (6, (endM ds : Int))
  else (0, 0)
/-- is a label of the right? -/
def rightM (ds : List Int) : Bool := anyN ds.length (fun i => isR (ds.getD i 0))
theorem brk_empty {ds : List Int} (h : ds.length = 0) : brkM ds = (1, 0) := by unfold brkM; rw [if_pos h]
theorem brk_start {ds : List Int} (h : ds.length ≠ 0) (h3 : 3 < ds.getD 0 0) : brkM ds = (1, 0) := by unfold brkM; rw [if_neg h, if_pos h3]
section
variable {ds : List Int} (h : ds.length ≠ 0) (h3 : ¬ 3 < ds.getD 0 0)
include h h3
theorem brk_2 (h1 : 1 < ds.getD 0 0) {k : Nat} (hk : k < ds.length) (h0 : ∀ i, i < k → isL (ds.getD i 0) = false) (hh : isL (ds.getD k 0) = true) : brkM ds = (2, (k : Int)) := by
  unfold brkM
  rw [if_neg h, if_neg h3, if_pos h1, idxN_at (g := fun i => isL (ds.getD i 0)) hk h0 hh, if_pos (by omega)]
theorem brk_3 (h1 : 1 < ds.getD 0 0) (h0 : ∀ i, i < ds.length → isL (ds.getD i 0) = false) (h5 : 5 < ds.getD (endM ds) 0) : brkM ds = (3, (endM ds : Int)) := by
  unfold brkM
  rw [if_neg h, if_neg h3, if_pos h1, idxN_none (g := fun i => isL (ds.getD i 0)) h0, if_neg (by omega), if_pos h5]
theorem brk_4 (h1 : 1 < ds.getD 0 0) (h0 : ∀ i, i < ds.length → isL (ds.getD i 0) = false) (h5 : ¬ 5 < ds.getD (endM ds) 0) {k : Nat} (hk : k < ds.length) (hn : ∀ i, i < k → bothB ds i = false) (hh : bothB ds k = true) : brkM ds = (4, (k : Int)) := by
  unfold brkM
  rw [if_neg h, if_neg h3, if_pos h1, idxN_none (g := fun i => isL (ds.getD i 0)) h0, if_neg (by omega), if_neg h5, idxN_at hk hn hh, if_pos (by omega)]
theorem brk_right (h1 : 1 < ds.getD 0 0) (h0 : ∀ i, i < ds.length → isL (ds.getD i 0) = false) (h5 : ¬ 5 < ds.getD (endM ds) 0) (hn : ∀ i, i < ds.length → bothB ds i = false) : brkM ds = (0, 0) := by
  unfold brkM
  rw [if_neg h, if_neg h3, if_pos h1, idxN_none (g := fun i => isL (ds.getD i 0)) h0, if_neg (by omega), if_neg h5, idxN_none hn, if_neg (by omega)]
theorem brk_5 (h1 : ¬ 1 < ds.getD 0 0) {k : Nat} (hk : k < ds.length) (h0 : ∀ i, i < k → isR (ds.getD i 0) = false) (hh : isR (ds.getD k 0) = true) : brkM ds = (5, (k : Int)) := by
  unfold brkM
  rw [if_neg h, if_neg h3, if_neg h1, idxN_at (g := fun i => isR (ds.getD i 0)) hk h0 hh, if_pos (by omega)]
theorem brk_6 (h1 : ¬ 1 < ds.getD 0 0) (h0 : ∀ i, i < ds.length → isR (ds.getD i 0) = false) (hz : ds.getD (endM ds) 0 ≠ 1 ∧ ds.getD (endM ds) 0 ≠ 4) : brkM ds = (6, (endM ds : Int)) := by
  unfold brkM
  rw [if_neg h, if_neg h3, if_neg h1, idxN_none (g := fun i => isR (ds.getD i 0)) h0, if_neg (by omega), if_pos hz]
theorem brk_left (h1 : ¬ 1 < ds.getD 0 0) (h0 : ∀ i, i < ds.length → isR (ds.getD i 0) = false) (hz : ¬ (ds.getD (endM ds) 0 ≠ 1 ∧ ds.getD (endM ds) 0 ≠ 4)) : brkM ds = (0, 0) := by
  unfold brkM
  rw [if_neg h, if_neg h3, if_neg h1, idxN_none (g := fun i => isR (ds.getD i 0)) h0, if_neg (by omega), if_neg hz]
end
theorem brk_range (ds : List Int) : 0 ≤ (brkM ds).1 ∧ (brkM ds).1 ≤ 6 ∧ 0 ≤ (brkM ds).2 ∧ ((brkM ds).1 = 0 → (brkM ds).2 = 0) := by
  unfold brkM
  have h1 := endF_le ds ds.length
  generalize idxN ds.length (fun i => isL (ds.getD i 0)) = x
  generalize idxN ds.length (fun i => isR (ds.getD i 0)) = y
  generalize idxN ds.length (bothB ds) = z
  (repeat' split) <;> refine ⟨?_, ?_, ?_, ?_⟩ <;> first | exact fun _ => rfl | (simp only []; omega)
/-- WHAT A LABEL THAT BREAKS NO RULE IS -/
theorem brk_none {ds : List Int} (h : (brkM ds).1 = 0) : ds.length ≠ 0 ∧ ¬ 3 < ds.getD 0 0 ∧
    ((1 < ds.getD 0 0 ∧ (∀ i, i < ds.length → isL (ds.getD i 0) = false) ∧ ¬ 5 < ds.getD (endM ds) 0 ∧ ∀ i, i < ds.length → bothB ds i = false) ∨
     (¬ 1 < ds.getD 0 0 ∧ (∀ i, i < ds.length → isR (ds.getD i 0) = false) ∧ ¬ (ds.getD (endM ds) 0 ≠ 1 ∧ ds.getD (endM ds) 0 ≠ 4))) := by
  by_cases h0 : ds.length = 0
  · rw [brk_empty h0] at h; exact absurd h (by decide)
  by_cases h3 : 3 < ds.getD 0 0
  · rw [brk_start h0 h3] at h; exact absurd h (by decide)
  refine ⟨h0, h3, ?_⟩
  by_cases h1 : 1 < ds.getD 0 0
  · refine .inl ⟨h1, ?_⟩
    rcases idxN_cases ds.length (fun i => isL (ds.getD i 0)) with ⟨-, q⟩ | ⟨k, hk, -, q1, q2⟩
    · by_cases h5 : 5 < ds.getD (endM ds) 0
      · rw [brk_3 h0 h3 h1 q h5] at h; exact absurd h (by simp)
      · rcases idxN_cases ds.length (bothB ds) with ⟨-, r⟩ | ⟨k, hk, -, r1, r2⟩
        · exact ⟨q, h5, r⟩
        · rw [brk_4 h0 h3 h1 q h5 hk r2 r1] at h; exact absurd h (by simp)
    · rw [brk_2 h0 h3 h1 hk q2 q1] at h; exact absurd h (by simp)
  · refine .inr ⟨h1, ?_⟩
    rcases idxN_cases ds.length (fun i => isR (ds.getD i 0)) with ⟨-, q⟩ | ⟨k, hk, -, q1, q2⟩
    · by_cases hz : ds.getD (endM ds) 0 ≠ 1 ∧ ds.getD (endM ds) 0 ≠ 4
      · rw [brk_6 h0 h3 h1 q hz] at h; exact absurd h (by simp)
      · exact ⟨q, hz⟩
    · rw [brk_5 h0 h3 h1 hk q2 q1] at h; exact absurd h (by simp)
theorem getD_app_l {l m : List Int} {i : Nat} (h : i < l.length) : (l ++ m).getD i 0 = l.getD i 0 := by
  simp [List.getD, List.getElem?_append_left h]
theorem getD_app_r {l m : List Int} {i : Nat} : (l ++ m).getD (l.length + i) 0 = m.getD i 0 := by
  simp [List.getD, List.getElem?_append_right]
/-- a list of NSM -/
def Nsm (m : List Int) : Prop := ∀ i, i < m.length → m.getD i 0 = 10
theorem endF_app {l m : List Int} (hm : Nsm m) : ∀ n, n ≤ m.length → endF (l ++ m) (l.length + n) = endM l
  | 0, _ => by
    have : ∀ k, k ≤ l.length → endF (l ++ m) k = endF l k := by
      intro k
      induction k with
      | zero => intro _; rfl
      | succ k ih =>
        intro hk
        rw [endF, endF, getD_app_l (by omega), ih (by omega)]
    exact this l.length (Nat.le_refl _)
  | n + 1, hn => by
    rw [← Nat.add_assoc, endF_pass (by rw [getD_app_r]; exact hm n (by omega))]
    exact endF_app hm n (by omega)
theorem endM_app {l m : List Int} (hm : Nsm m) : endM (l ++ m) = endM l := by
  unfold endM
  rw [List.length_append]
  exact endF_app hm m.length (Nat.le_refl _)
theorem mem_app {l m : List Int} (hm : Nsm m) {i : Nat} (hi : i < (l ++ m).length) : (i < l.length ∧ (l ++ m).getD i 0 = l.getD i 0) ∨ (l.length ≤ i ∧ (l ++ m).getD i 0 = 10) := by
  rw [List.length_append] at hi
  rcases Nat.lt_or_ge i l.length with g | g
  · exact .inl ⟨g, getD_app_l g⟩
  · obtain ⟨j, rfl⟩ : ∃ j, i = l.length + j := ⟨i - l.length, by omega⟩
    exact .inr ⟨g, by rw [getD_app_r]; exact hm j (by omega)⟩
theorem seen_app {l m : List Int} (hm : Nsm m) {d : Int} (hd : d ≠ 10) : ∀ n, n ≤ (l ++ m).length → seenB (l ++ m) d n = seenB l d (min n l.length)
  | 0, _ => by rw [Nat.zero_min]; rfl
  | n + 1, hn => by
    rw [seenB_succ, seen_app hm hd n (by omega)]
    rcases mem_app (l := l) (i := n) hm (by omega) with ⟨g, e⟩ | ⟨g, e⟩
    · rw [e, show min (n + 1) l.length = n + 1 by omega, show min n l.length = n by omega, seenB_succ]
    · rw [e, show min (n + 1) l.length = l.length by omega, show min n l.length = l.length by omega]
      have : ((10 : Int) == d) = false := by simpa using fun q : (10 : Int) = d => hd q.symm
      rw [this, Bool.or_false]
/-- NSM PUT BEHIND A LABEL THAT BREAKS NO RULE: NONE IS BROKEN -/
theorem brk_app {l m : List Int} (hm : Nsm m) (h : (brkM l).1 = 0) : brkM (l ++ m) = (0, 0) := by
  obtain ⟨h0, h3, hr⟩ := brk_none h
  have e0 : (l ++ m).getD 0 0 = l.getD 0 0 := getD_app_l (by omega)
  have n0 : (l ++ m).length ≠ 0 := by rw [List.length_append]; omega
  have n3 : ¬ 3 < (l ++ m).getD 0 0 := by rw [e0]; exact h3
  have ee : (l ++ m).getD (endM (l ++ m)) 0 = l.getD (endM l) 0 := by
    rw [endM_app hm]
    exact getD_app_l (endF_lt (by omega))
  rcases hr with ⟨q1, q2, q5, qb⟩ | ⟨q1, q2, qz⟩
  · refine brk_right n0 n3 (by rw [e0]; exact q1) (fun i hi => ?_) (by rw [ee]; exact q5) (fun i hi => ?_)
    · rcases mem_app hm hi with ⟨g, e⟩ | ⟨g, e⟩
      · rw [e]; exact q2 i g
      · rw [e]; rfl
    · unfold bothB
      rw [seen_app hm (by decide) _ (by omega), seen_app hm (by decide) _ (by omega)]
      rcases Nat.lt_or_ge i l.length with g | g
      · rw [show min (i + 1) l.length = i + 1 by omega]; exact qb i g
      · rw [show min (i + 1) l.length = (l.length - 1) + 1 by omega]; exact qb (l.length - 1) (by omega)
  · refine brk_left n0 n3 (by rw [e0]; exact q1) (fun i hi => ?_) (by rw [ee]; exact qz)
    rcases mem_app hm hi with ⟨g, e⟩ | ⟨g, e⟩
    · rw [e]; exact q2 i g
    · rw [e]; rfl
theorem right_app {l m : List Int} (hm : Nsm m) : rightM (l ++ m) = rightM l := by
  unfold rightM
  rw [Bool.eq_iff_iff, anyN_iff, anyN_iff]
  constructor
  · rintro ⟨k, hk, h⟩
    rcases mem_app hm hk with ⟨g, e⟩ | ⟨g, e⟩
    · rw [e] at h; exact ⟨k, g, h⟩
    · rw [e] at h; exact absurd h (by decide)
  · rintro ⟨k, hk, h⟩
    exact ⟨k, by rw [List.length_append]; omega, by rw [getD_app_l hk]; exact h⟩
/-- HOW A LABEL THAT BREAKS NO RULE ENDS -/
theorem brk_ends {ds : List Int} (hd : Dirs ds) (h : (brkM ds).1 = 0) : (ds.getD 0 0 = 1 ∧ (ds.getD (endM ds) 0 = 1 ∨ ds.getD (endM ds) 0 = 4)) ∨ (ds.getD 0 0 ≠ 1 ∧ 2 ≤ ds.getD (endM ds) 0 ∧ ds.getD (endM ds) 0 ≤ 5) := by
  obtain ⟨h0, h3, hr⟩ := brk_none h
  have g0 := hd 0 (by omega)
  have ge := hd (endM ds) (endF_lt (by omega))
  rcases hr with ⟨q1, q2, q5, -⟩ | ⟨q1, -, qz⟩
  · refine .inr ⟨by omega, ?_, by omega⟩
    have := q2 (endM ds) (endF_lt (by omega))
    unfold isL at this
    have : ds.getD (endM ds) 0 ≠ 1 := by simpa using this
    omega
  · refine .inl ⟨by omega, ?_⟩
    omega
theorem brk_first {ds : List Int} (h3 : ¬ 3 < ds.getD 0 0) : ds.getD 0 0 ≠ 10 := by omega
/-- WHICH LABEL OF A NAME BREAKS A RULE FIRST; a name is the directions of its labels -/
def mixM (nm : List (List Int)) : Bool := anyN nm.length (fun i => rightM (nm.getD i []))
def badM (nm : List (List Int)) : Int := idxN nm.length (fun i => decide ((brkM (nm.getD i [])).1 ≠ 0))
def nameM (nm : List (List Int)) : Nat × Nat := if mixM nm = true ∧ 0 ≤ badM nm then ((badM nm).toNat, 12) else (0, 0)
theorem name_unmixed {nm : List (List Int)} (h : mixM nm = false) : nameM nm = (0, 0) := by unfold nameM; rw [if_neg (by rw [h]; simp)]
theorem name_good {nm : List (List Int)} (h : ∀ i, i < nm.length → (brkM (nm.getD i [])).1 = 0) : nameM nm = (0, 0) := by
  have : badM nm = -1 := idxN_none (fun i hi => by rw [h i hi]; rfl)
  unfold nameM; rw [this, if_neg (by omega)]
theorem name_bad {nm : List (List Int)} (hm : mixM nm = true) {k : Nat} (hk : k < nm.length) (h0 : ∀ i, i < k → (brkM (nm.getD i [])).1 = 0) (h : (brkM (nm.getD k [])).1 ≠ 0) : nameM nm = (k, 12) := by
  have : badM nm = k := idxN_at hk (fun i hi => by rw [h0 i hi]; rfl) (decide_eq_true h)
  unfold nameM; rw [this, if_pos ⟨hm, by omega⟩]; simp
end Go.Proofs.YtcklfcoobccgcaaDoor

/-
  What is proved here: plain mathematics of JSON values: how numbers are written, texts in quotes, a value's text; right values of one text are the same. No program is in it. · plain mathematics of JSON values: what is wrong with one, how many values it has, how much it is. No program is in it. · JSON values that lie in memory, by their cells.
-/
import Derived.WalkKit
import Derived.Test.YtjjoedkigjekcaaGreatDoorME
namespace Go.Proofs.YtjjoedkigjekcaaGreatDoor

/-- a JSON value: kind, text, list, members -/
inductive J where
  | mk (k : Int) (s : List UInt8) (l : List J) (m : List (List UInt8 × J))
def J.fold {α : Type} (f : Int → List UInt8 → List α → List (List UInt8 × α) → α) : J → α
  | .mk k s l m => f k s (l.attach.map fun x => J.fold f x.1) (m.attach.map fun x => (x.1.1, J.fold f x.1.2))
termination_by t => SizeOf.sizeOf t
decreasing_by
  · have := List.sizeOf_lt_of_mem x.2
    simp
    omega
  · have h := List.sizeOf_lt_of_mem x.2
    obtain ⟨⟨a, b⟩, hx⟩ := x
    simp at h ⊢
    omega
theorem J.fold_mk {α : Type} (f : Int → List UInt8 → List α → List (List UInt8 × α) → α) (k : Int) (s : List UInt8) (l : List J) (m : List (List UInt8 × J)) :
    (J.mk k s l m).fold f = f k s (l.map (J.fold f)) (m.map fun x => (x.1, x.2.fold f)) := by
  rw [J.fold]
  simp only [List.map_subtype, List.unattach_attach]
theorem J.ind {P : J → Prop} (h : ∀ k s l m, (∀ x ∈ l, P x) → (∀ x ∈ m, P x.2) → P (.mk k s l m)) : ∀ t, P t
  | .mk k s l m => h k s l m (fun x _hx => J.ind h x) (fun x _hx => J.ind h x.2)
termination_by t => SizeOf.sizeOf t
decreasing_by
  · have := List.sizeOf_lt_of_mem _hx
    simp
    omega
  · have h := List.sizeOf_lt_of_mem _hx
    obtain ⟨a, b⟩ := x
    simp at h ⊢
    omega

/-! ## numbers as they are written -/
def isDig (b : UInt8) : Bool := 48 ≤ b && b ≤ 57
def digsN (s : List UInt8) (a : Nat) : Nat := ((s.drop a).takeWhile isDig).length
def wr3 (s : List UInt8) (a : Nat) : Bool :=
  if s.getD a 0 = 101 ∨ s.getD a 0 = 69 then
    (if s.getD (a + 1) 0 = 43 ∨ s.getD (a + 1) 0 = 45 then (if digsN s (a + 2) = 0 then false else a + 2 + digsN s (a + 2) == s.length)
      else (if digsN s (a + 1) = 0 then false else a + 1 + digsN s (a + 1) == s.length))
  else a == s.length
def wr2 (s : List UInt8) (a : Nat) : Bool :=
  if s.getD a 0 = 46 then (if digsN s (a + 1) = 0 then false else wr3 s (a + 1 + digsN s (a + 1))) else wr3 s a
def wr1 (s : List UInt8) (a : Nat) : Bool :=
  if digsN s a = 0 ∨ (1 < digsN s a ∧ s.getD a 0 = 48) then false else wr2 s (a + digsN s a)
def writtenM (s : List UInt8) : Bool := wr1 s (if s.getD 0 0 = 45 then 1 else 0)
/-- what stands in a written number -/
def isNum (b : UInt8) : Bool := isDig b || b == 43 || b == 45 || b == 46 || b == 101 || b == 69
def NumTo (s : List UInt8) (a : Nat) : Prop := ∀ i, i < a → i < s.length → isNum (s.getD i 0) = true
theorem NumTo.one {s : List UInt8} {a : Nat} (h : NumTo s a) (hc : isNum (s.getD a 0) = true) : NumTo s (a + 1) := by
  intro i hi hl
  rcases Nat.lt_or_ge i a with g | g
  · exact h i g hl
  · obtain rfl : i = a := by omega
    exact hc
theorem takeWhile_getD (l : List UInt8) : ∀ i, i < (l.takeWhile isDig).length → isDig (l.getD i 0) = true := by
  induction l with
  | nil => intro i hi; simp at hi
  | cons b l ih =>
    intro i hi
    rw [List.takeWhile_cons] at hi
    by_cases hb : isDig b = true
    · rw [if_pos hb] at hi
      cases i with
      | zero => simpa using hb
      | succ i => simpa using ih i (by simpa using hi)
    · rw [if_neg hb] at hi; simp at hi
theorem digsN_getD (s : List UInt8) (a i : Nat) (h : i < digsN s a) : isDig (s.getD (a + i) 0) = true := by
  have := takeWhile_getD (s.drop a) i h
  simpa [List.getD, List.getElem?_drop] using this
theorem isNum_dig {b : UInt8} (h : isDig b = true) : isNum b = true := by simp [isNum, h]
theorem NumTo.digs {s : List UInt8} {a : Nat} (h : NumTo s a) : NumTo s (a + digsN s a) := by
  intro i hi hl
  rcases Nat.lt_or_ge i a with g | g
  · exact h i g hl
  · have := digsN_getD s a (i - a) (by omega)
    rw [show a + (i - a) = i from by omega] at this
    exact isNum_dig this
theorem wr3_num {s : List UInt8} {a : Nat} (h : NumTo s a) (hw : wr3 s a = true) : NumTo s s.length := by
  unfold wr3 at hw
  by_cases h1 : s.getD a 0 = 101 ∨ s.getD a 0 = 69
  · rw [if_pos h1] at hw
    have h' : NumTo s (a + 1) := h.one (by rcases h1 with e | e <;> rw [e] <;> rfl)
    by_cases h2 : s.getD (a + 1) 0 = 43 ∨ s.getD (a + 1) 0 = 45
    · rw [if_pos h2] at hw
      have h'' : NumTo s (a + 2) := h'.one (by rcases h2 with e | e <;> rw [e] <;> rfl)
      split at hw
      · simp at hw
      · have e : a + 2 + digsN s (a + 2) = s.length := by simpa using hw
        rw [← e]; exact h''.digs
    · rw [if_neg h2] at hw
      split at hw
      · simp at hw
      · have e : a + 1 + digsN s (a + 1) = s.length := by simpa using hw
        rw [← e]; exact h'.digs
  · rw [if_neg h1] at hw
    have e : a = s.length := by simpa using hw
    rw [← e]; exact h
theorem wr2_num {s : List UInt8} {a : Nat} (h : NumTo s a) (hw : wr2 s a = true) : NumTo s s.length := by
  unfold wr2 at hw
  split at hw
  · rename_i e
    split at hw
    · simp at hw
    · exact wr3_num (h.one (by rw [e]; rfl)).digs hw
  · exact wr3_num h hw
theorem written_num {s : List UInt8} (hw : writtenM s = true) : ∀ b ∈ s, isNum b = true := by
  have h : NumTo s s.length := by
    unfold writtenM at hw
    have h0 : NumTo s (if s.getD 0 0 = 45 then 1 else 0) := by
      split
      · rename_i e
        exact NumTo.one (a := 0) (fun i hi => by omega) (by rw [e]; rfl)
      · exact fun i hi => by omega
    generalize (if s.getD 0 0 = 45 then 1 else 0) = a at hw h0
    unfold wr1 at hw
    split at hw
    · simp at hw
    · exact wr2_num h0.digs hw
  intro b hb
  obtain ⟨i, hi, rfl⟩ := List.getElem_of_mem hb
  have := h i hi hi
  simpa [List.getD, hi] using this
theorem written_head {s : List UInt8} (hw : writtenM s = true) : ∃ b r, s = b :: r ∧ (b = 45 ∨ isDig b = true) := by
  unfold writtenM at hw
  by_cases e : s.getD 0 0 = 45
  · cases s with
    | nil => simp at e
    | cons b r => exact ⟨b, r, rfl, .inl (by simpa using e)⟩
  · rw [if_neg e] at hw
    unfold wr1 at hw
    split at hw
    · simp at hw
    · rename_i g
      have hd := digsN_getD s 0 0 (by omega)
      cases s with
      | nil => simp [isDig] at hd
      | cons b r => exact ⟨b, r, rfl, .inr (by simpa using hd)⟩
/-- behind a value's text: nothing, or a comma, or a bracket -/
def Behind (r : List UInt8) : Prop := r = [] ∨ ∃ b x, r = b :: x ∧ (b = 44 ∨ b = 93 ∨ b = 125)
theorem num_inj {s s' r r' : List UInt8} (hs : ∀ b ∈ s, isNum b = true) (hs' : ∀ b ∈ s', isNum b = true) (hr : Behind r) (hr' : Behind r') (h : s ++ r = s' ++ r') : s = s' ∧ r = r' := by
  have no : ∀ {r : List UInt8} {b : UInt8} {x : List UInt8}, Behind r → r = b :: x → isNum b = true → False := by
    intro r b x hr e hb
    rcases hr with rfl | ⟨c, y, rfl, hc⟩
    · simp at e
    · injection e with e1 e2
      subst e1
      rcases hc with rfl | rfl | rfl <;> revert hb <;> decide
  induction s generalizing s' with
  | nil =>
    cases s' with
    | nil => exact ⟨rfl, by simpa using h⟩
    | cons b s' => exact (no hr (by simpa using h) (hs' b (by simp))).elim
  | cons a s ih =>
    cases s' with
    | nil => exact (no hr' (by simpa using h.symm) (hs a (by simp))).elim
    | cons b s' =>
      simp only [List.cons_append, List.cons.injEq] at h
      obtain ⟨rfl, h⟩ := h
      obtain ⟨rfl, e⟩ := ih (fun b hb => hs b (by simp [hb])) (fun b hb => hs' b (by simp [hb])) h
      exact ⟨rfl, e⟩

/-! ## texts in quotes -/
def hexC (n : UInt8) : UInt8 := if n < 10 then n + 48 else n + 87
def quoteB (b : UInt8) : List UInt8 :=
  if b = 34 ∨ b = 92 then [92, b] else if 32 ≤ b then [b] else if b = 8 then [92, 98] else if b = 9 then [92, 116] else if b = 10 then [92, 110] else if b = 12 then [92, 102] else if b = 13 then [92, 114] else [92, 117, 48, 48, hexC (b / 16), hexC (b % 16)]
def quoteM (s : List UInt8) : List UInt8 := 34 :: (s.flatMap quoteB ++ [34])
def unhex (c : UInt8) : UInt8 := if c < 58 then c - 48 else c - 87
/-- the byte that a quoted text begins with, and what stands behind it -/
def unquote : List UInt8 → Option (UInt8 × List UInt8)
  | 92 :: 117 :: 48 :: 48 :: a :: b :: r => some (unhex a * 16 + unhex b, r)
  | 92 :: c :: r => some (if c = 98 then 8 else if c = 116 then 9 else if c = 110 then 10 else if c = 102 then 12 else if c = 114 then 13 else c, r)
  | 34 :: _ => none
  | b :: r => some (b, r)
  | [] => none
theorem low_cases : ∀ n : Fin 32, (n.val ≠ 8 ∧ n.val ≠ 9 ∧ n.val ≠ 10 ∧ n.val ≠ 12 ∧ n.val ≠ 13 → unhex (hexC (UInt8.ofNat n.val / 16)) * 16 + unhex (hexC (UInt8.ofNat n.val % 16)) = UInt8.ofNat n.val) := by decide
theorem unquote_quoteB (b : UInt8) (r : List UInt8) : unquote (quoteB b ++ r) = some (b, r) := by
  unfold quoteB
  by_cases h1 : b = 34 ∨ b = 92
  · rw [if_pos h1]
    rcases h1 with rfl | rfl <;> rfl
  rw [if_neg h1]
  by_cases h2 : 32 ≤ b
  · rw [if_pos h2]
    have n1 : b ≠ 34 := fun e => h1 (.inl e)
    have n2 : b ≠ 92 := fun e => h1 (.inr e)
    show unquote (b :: r) = _
    unfold unquote
    split
    · rename_i e; injection e with e _; exact absurd e n2
    · rename_i e; injection e with e _; exact absurd e n2
    · rename_i e; injection e with e _; exact absurd e n1
    · rename_i e; injection e with e1 e2; rw [e1, e2]
    · rename_i e; cases e
  rw [if_neg h2]
  by_cases h8 : b = 8
  · subst h8; rfl
  rw [if_neg h8]
  by_cases h9 : b = 9
  · subst h9; rfl
  rw [if_neg h9]
  by_cases h10 : b = 10
  · subst h10; rfl
  rw [if_neg h10]
  by_cases h12 : b = 12
  · subst h12; rfl
  rw [if_neg h12]
  by_cases h13 : b = 13
  · subst h13; rfl
  rw [if_neg h13]
  have hb : b.toNat < 32 := by
    have : ¬ (32 : UInt8).toNat ≤ b.toNat := fun h => h2 (UInt8.le_iff_toNat_le.2 h)
    simpa using this
  have hl := low_cases ⟨b.toNat, hb⟩ ⟨fun e => h8 (UInt8.toNat_inj.1 e), fun e => h9 (UInt8.toNat_inj.1 e), fun e => h10 (UInt8.toNat_inj.1 e), fun e => h12 (UInt8.toNat_inj.1 e), fun e => h13 (UInt8.toNat_inj.1 e)⟩
  simp only [UInt8.ofNat_toNat] at hl
  show some (unhex (hexC (b / 16)) * 16 + unhex (hexC (b % 16)), r) = some (b, r)
  rw [hl]
theorem quotes_inj : ∀ {s s' r r' : List UInt8}, s.flatMap quoteB ++ 34 :: r = s'.flatMap quoteB ++ 34 :: r' → s = s' ∧ r = r'
  | [], [], r, r', h => ⟨rfl, by simpa using h⟩
  | [], b :: s', r, r', h => by
    have := congrArg unquote h
    simp only [List.flatMap_cons, List.append_assoc, unquote_quoteB] at this
    simp [unquote] at this
  | a :: s, [], r, r', h => by
    have := congrArg unquote h
    simp only [List.flatMap_cons, List.append_assoc, unquote_quoteB] at this
    simp [unquote] at this
  | a :: s, b :: s', r, r', h => by
    have := congrArg unquote h
    simp only [List.flatMap_cons, List.append_assoc, unquote_quoteB] at this
    injection this with this
    injection this with e1 e2
    obtain ⟨h1, h2⟩ := quotes_inj e2
    exact ⟨by rw [e1, h1], h2⟩
theorem quote_inj {s s' r r' : List UInt8} (h : quoteM s ++ r = quoteM s' ++ r') : s = s' ∧ r = r' := by
  unfold quoteM at h
  simp only [List.cons_append, List.append_assoc, List.cons.injEq, true_and, List.nil_append] at h
  exact quotes_inj h

/-! ## a value's text -/
def commaL (l : List (List UInt8)) : List UInt8 := l.flatMap fun x => 44 :: x
def commaM (m : List (List UInt8 × List UInt8)) : List UInt8 := m.flatMap fun x => 44 :: (quoteM x.1 ++ 58 :: x.2)
def textF (k : Int) (s : List UInt8) (l : List (List UInt8)) (m : List (List UInt8 × List UInt8)) : List UInt8 :=
  if k ≤ 0 then [110, 117, 108, 108] else if k = 1 then [102, 97, 108, 115, 101] else if k = 2 then [116, 114, 117, 101] else if k = 3 then s else if k = 4 then quoteM s
  else if k = 5 then 91 :: ((commaL l ++ commaM m).tail ++ [93]) else 123 :: ((commaL l ++ commaM m).tail ++ [125])
def textM : J → List UInt8 := J.fold textF
theorem textM_mk (k : Int) (s : List UInt8) (l : List J) (m : List (List UInt8 × J)) : textM (.mk k s l m) = textF k s (l.map textM) (m.map fun x => (x.1, textM x.2)) := J.fold_mk _ _ _ _ _
/-- of what form a right value is by itself -/
def Shape (k : Int) (s : List UInt8) (l m : Nat) : Prop := (0 ≤ k ∧ k ≤ 6) ∧ (k ≠ 3 → k ≠ 4 → s = []) ∧ (k ≠ 5 → l = 0) ∧ (k ≠ 6 → m = 0) ∧ (k = 3 → writtenM s = true)
def Fine : J → Prop := J.fold fun k s l m => Shape k s l.length m.length ∧ (∀ p ∈ l, p) ∧ ∀ p ∈ m, p.2
theorem Fine_mk (k : Int) (s : List UInt8) (l : List J) (m : List (List UInt8 × J)) : Fine (.mk k s l m) ↔ Shape k s l.length m.length ∧ (∀ x ∈ l, Fine x) ∧ ∀ x ∈ m, Fine x.2 := by
  unfold Fine
  rw [J.fold_mk]
  simp only [List.length_map, List.forall_mem_map]
/-- what a right value's text begins with -/
def headOf (k : Int) (b : UInt8) : Prop :=
  (k = 0 ∧ b = 110) ∨ (k = 1 ∧ b = 102) ∨ (k = 2 ∧ b = 116) ∨ (k = 3 ∧ (b = 45 ∨ isDig b = true)) ∨ (k = 4 ∧ b = 34) ∨ (k = 5 ∧ b = 91) ∨ (k = 6 ∧ b = 123)
def J.k : J → Int
  | .mk k _ _ _ => k
theorem kinds {k : Int} (h : 0 ≤ k ∧ k ≤ 6) : k = 0 ∨ k = 1 ∨ k = 2 ∨ k = 3 ∨ k = 4 ∨ k = 5 ∨ k = 6 := by omega
theorem text_head {t : J} (h : Fine t) : ∃ b r, textM t = b :: r ∧ headOf t.k b := by
  obtain ⟨k, s, l, m⟩ := t
  obtain ⟨⟨hk, h1, h2, h3, h4⟩, -, -⟩ := (Fine_mk ..).1 h
  rw [textM_mk]
  show ∃ b r, _ ∧ headOf k b
  rcases kinds hk with rfl | rfl | rfl | rfl | rfl | rfl | rfl
  · exact ⟨110, _, rfl, by simp [headOf]⟩
  · exact ⟨102, _, rfl, by simp [headOf]⟩
  · exact ⟨116, _, rfl, by simp [headOf]⟩
  · obtain ⟨b, r, rfl, hb⟩ := written_head (h4 rfl)
    exact ⟨b, r, rfl, by simp [headOf, hb]⟩
  · exact ⟨34, _, rfl, by simp [headOf]⟩
  · exact ⟨91, _, rfl, by simp [headOf]⟩
  · exact ⟨123, _, rfl, by simp [headOf]⟩
theorem headOf_inj {k k' : Int} {b : UInt8} (h : headOf k b) (h' : headOf k' b) : k = k' := by
  have d : ∀ {b : UInt8}, b = 110 ∨ b = 102 ∨ b = 116 ∨ b = 34 ∨ b = 91 ∨ b = 123 → (b = 45 ∨ isDig b = true) → False := by
    rintro b (rfl | rfl | rfl | rfl | rfl | rfl) h <;> revert h <;> decide
  rcases h with ⟨rfl, rfl⟩ | ⟨rfl, rfl⟩ | ⟨rfl, rfl⟩ | ⟨rfl, hb⟩ | ⟨rfl, rfl⟩ | ⟨rfl, rfl⟩ | ⟨rfl, rfl⟩
  all_goals
    rcases h' with ⟨rfl, e⟩ | ⟨rfl, e⟩ | ⟨rfl, e⟩ | ⟨rfl, e⟩ | ⟨rfl, e⟩ | ⟨rfl, e⟩ | ⟨rfl, e⟩
    all_goals first
      | rfl
      | (exact absurd e (by decide))
      | (exact (d (by simp) e).elim)
      | (exact (d (by simp [e]) hb).elim)
theorem headOf_not {k : Int} {b : UInt8} (h : headOf k b) : b ≠ 93 ∧ b ≠ 125 ∧ b ≠ 44 := by
  rcases h with ⟨rfl, rfl⟩ | ⟨rfl, rfl⟩ | ⟨rfl, rfl⟩ | ⟨rfl, hb⟩ | ⟨rfl, rfl⟩ | ⟨rfl, rfl⟩ | ⟨rfl, rfl⟩
  all_goals try decide
  refine ⟨?_, ?_, ?_⟩ <;> rintro rfl <;> revert hb <;> decide
theorem behind_close {b : UInt8} {x : List UInt8} (h : b = 44 ∨ b = 93 ∨ b = 125) : Behind (b :: x) := .inr ⟨b, x, rfl, h⟩
/-- a list's text -/
theorem list_inj (l : List J) (ih : ∀ t ∈ l, ∀ t' r r', Fine t → Fine t' → Behind r → Behind r' → textM t ++ r = textM t' ++ r' → t = t' ∧ r = r') :
    ∀ (l' : List J) (r r' : List UInt8), (∀ t ∈ l, Fine t) → (∀ t ∈ l', Fine t) → commaL (l.map textM) ++ 93 :: r = commaL (l'.map textM) ++ 93 :: r' → l = l' ∧ r = r' := by
  induction l with
  | nil =>
    intro l' r r' _ h2 h
    cases l' with
    | nil => exact ⟨rfl, by simpa [commaL] using h⟩
    | cons t' l' => simp [commaL] at h
  | cons t l jh =>
    intro l' r r' h1 h2 h
    cases l' with
    | nil => simp [commaL] at h
    | cons t' l' =>
      simp only [commaL, List.map_cons, List.flatMap_cons, List.cons_append, List.append_assoc, List.cons.injEq, true_and] at h
      have hb : ∀ (l : List J) (r : List UInt8), Behind ((l.map textM).flatMap (fun x => 44 :: x) ++ 93 :: r) := by
        intro l r
        cases l with
        | nil => exact behind_close (by simp)
        | cons t l => exact behind_close (by simp)
      obtain ⟨rfl, e⟩ := ih t (by simp) t' _ _ (h1 t (by simp)) (h2 t' (by simp)) (hb _ _) (hb _ _) h
      obtain ⟨rfl, e2⟩ := jh (fun x hx => ih x (by simp [hx])) l' r r' (fun x hx => h1 x (by simp [hx])) (fun x hx => h2 x (by simp [hx])) e
      exact ⟨rfl, e2⟩
theorem list_body (l : List J) (hne : l ≠ []) (hf : ∀ t ∈ l, Fine t) (x : List UInt8) : ∃ b y, (commaL (l.map textM)).tail ++ x = b :: y ∧ b ≠ 93 ∧ 44 :: (b :: y) = commaL (l.map textM) ++ x := by
  cases l with
  | nil => exact absurd rfl hne
  | cons t l =>
    obtain ⟨b, r, e, hb⟩ := text_head (hf t (by simp))
    refine ⟨b, r ++ (commaL (l.map textM) ++ x), ?_, (headOf_not hb).1, ?_⟩
    · simp [commaL, e]
    · simp [commaL, e]
theorem member_inj (m : List (List UInt8 × J)) (ih : ∀ p ∈ m, ∀ t' r r', Fine p.2 → Fine t' → Behind r → Behind r' → textM p.2 ++ r = textM t' ++ r' → p.2 = t' ∧ r = r') :
    ∀ (m' : List (List UInt8 × J)) (r r' : List UInt8), (∀ p ∈ m, Fine p.2) → (∀ p ∈ m', Fine p.2) → commaM (m.map fun x => (x.1, textM x.2)) ++ 125 :: r = commaM (m'.map fun x => (x.1, textM x.2)) ++ 125 :: r' → m = m' ∧ r = r' := by
  induction m with
  | nil =>
    intro m' r r' _ h2 h
    cases m' with
    | nil => exact ⟨rfl, by simpa [commaM] using h⟩
    | cons t' m' => simp [commaM] at h
  | cons p m jh =>
    intro m' r r' h1 h2 h
    cases m' with
    | nil => simp [commaM] at h
    | cons p' m' =>
      simp only [commaM, List.map_cons, List.flatMap_cons, List.cons_append, List.append_assoc, List.cons.injEq, true_and] at h
      have hb : ∀ (m : List (List UInt8 × J)) (r : List UInt8), Behind ((m.map fun x => (x.1, textM x.2)).flatMap (fun x => 44 :: (quoteM x.1 ++ 58 :: x.2)) ++ 125 :: r) := by
        intro m r
        cases m with
        | nil => exact behind_close (by simp)
        | cons t m => exact behind_close (by simp)
      obtain ⟨e1, e⟩ := quote_inj h
      simp only [List.cons.injEq, true_and] at e
      obtain ⟨e2, e⟩ := ih p (by simp) p'.2 _ _ (h1 p (by simp)) (h2 p' (by simp)) (hb _ _) (hb _ _) e
      obtain ⟨rfl, e3⟩ := jh (fun x hx => ih x (by simp [hx])) m' r r' (fun x hx => h1 x (by simp [hx])) (fun x hx => h2 x (by simp [hx])) e
      exact ⟨by rw [show p = p' from Prod.ext e1 e2], e3⟩
theorem member_body (m : List (List UInt8 × J)) (hne : m ≠ []) (x : List UInt8) : ∃ b y, (commaM (m.map fun x => (x.1, textM x.2))).tail ++ x = b :: y ∧ b ≠ 125 ∧ 44 :: (b :: y) = commaM (m.map fun x => (x.1, textM x.2)) ++ x := by
  cases m with
  | nil => exact absurd rfl hne
  | cons p m => exact ⟨34, _, by simp [commaM, quoteM]; rfl, by decide, by simp [commaM, quoteM]⟩
/-- RIGHT VALUES WHOSE TEXTS ARE THE SAME ARE THE SAME (also with something behind them). -/
theorem text_inj : ∀ t : J, ∀ t' r r', Fine t → Fine t' → Behind r → Behind r' → textM t ++ r = textM t' ++ r' → t = t' ∧ r = r' := by
  refine J.ind ?_
  intro k s l m ihl ihm t' r r' hf hf' hr hr' h
  obtain ⟨b, x, e, hb⟩ := text_head hf
  obtain ⟨b', x', e', hb'⟩ := text_head hf'
  have hk : k = t'.k := by
    rw [e, e'] at h
    injection h with h _
    subst h
    exact headOf_inj hb hb'
  obtain ⟨k', s', l', m'⟩ := t'
  obtain rfl : k = k' := hk
  clear e e' hb hb' b b' x x'
  rw [textM_mk, textM_mk] at h
  obtain ⟨⟨hk, h1, h2, h3, h4⟩, hL, hM⟩ := (Fine_mk ..).1 hf
  obtain ⟨⟨-, h1', h2', h3', h4'⟩, hL', hM'⟩ := (Fine_mk ..).1 hf'
  have nl : k ≠ 5 → l = [] ∧ l' = [] := fun e => ⟨List.length_eq_zero_iff.1 (h2 e), List.length_eq_zero_iff.1 (h2' e)⟩
  have nm : k ≠ 6 → m = [] ∧ m' = [] := fun e => ⟨List.length_eq_zero_iff.1 (h3 e), List.length_eq_zero_iff.1 (h3' e)⟩
  have ns : k ≠ 3 → k ≠ 4 → s = [] ∧ s' = [] := fun e e' => ⟨h1 e e', h1' e e'⟩
  rcases kinds hk with rfl | rfl | rfl | rfl | rfl | rfl | rfl
  · obtain ⟨rfl, rfl⟩ := nl (by decide); obtain ⟨rfl, rfl⟩ := nm (by decide); obtain ⟨rfl, rfl⟩ := ns (by decide) (by decide)
    exact ⟨rfl, by simpa [textF] using h⟩
  · obtain ⟨rfl, rfl⟩ := nl (by decide); obtain ⟨rfl, rfl⟩ := nm (by decide); obtain ⟨rfl, rfl⟩ := ns (by decide) (by decide)
    exact ⟨rfl, by simpa [textF] using h⟩
  · obtain ⟨rfl, rfl⟩ := nl (by decide); obtain ⟨rfl, rfl⟩ := nm (by decide); obtain ⟨rfl, rfl⟩ := ns (by decide) (by decide)
    exact ⟨rfl, by simpa [textF] using h⟩
  · obtain ⟨rfl, rfl⟩ := nl (by decide); obtain ⟨rfl, rfl⟩ := nm (by decide)
    obtain ⟨rfl, e⟩ := num_inj (written_num (h4 rfl)) (written_num (h4' rfl)) hr hr' (show s ++ r = s' ++ r' from h)
    exact ⟨rfl, e⟩
  · obtain ⟨rfl, rfl⟩ := nl (by decide); obtain ⟨rfl, rfl⟩ := nm (by decide)
    obtain ⟨rfl, e⟩ := quote_inj (show quoteM s ++ r = quoteM s' ++ r' from h)
    exact ⟨rfl, e⟩
  · obtain ⟨rfl, rfl⟩ := nm (by decide); obtain ⟨rfl, rfl⟩ := ns (by decide) (by decide)
    have h : (commaL (l.map textM)).tail ++ 93 :: r = (commaL (l'.map textM)).tail ++ 93 :: r' := by
      simpa [textF, commaM] using h
    have ge : commaL (l.map textM) ++ 93 :: r = commaL (l'.map textM) ++ 93 :: r' := by
      by_cases z : l = [] <;> by_cases z' : l' = []
      · rw [z, z'] at h ⊢; simpa [commaL] using h
      · subst z
        obtain ⟨b, y, e1, e2, -⟩ := list_body l' z' hL' (93 :: r')
        rw [e1] at h
        simp [commaL] at h
        exact absurd h.1.symm e2
      · subst z'
        obtain ⟨b, y, e1, e2, -⟩ := list_body l z hL (93 :: r)
        rw [e1] at h
        simp [commaL] at h
        exact absurd h.1 e2
      · obtain ⟨b, y, e1, -, e3⟩ := list_body l z hL (93 :: r)
        obtain ⟨b', y', e1', -, e3'⟩ := list_body l' z' hL' (93 :: r')
        rw [← e3, ← e3', ← e1, ← e1', h]
    obtain ⟨rfl, e⟩ := list_inj l ihl l' r r' hL hL' ge
    exact ⟨rfl, e⟩
  · obtain ⟨rfl, rfl⟩ := nl (by decide); obtain ⟨rfl, rfl⟩ := ns (by decide) (by decide)
    have h : (commaM (m.map fun x => (x.1, textM x.2))).tail ++ 125 :: r = (commaM (m'.map fun x => (x.1, textM x.2))).tail ++ 125 :: r' := by
      simpa [textF, commaL] using h
    have ge : commaM (m.map fun x => (x.1, textM x.2)) ++ 125 :: r = commaM (m'.map fun x => (x.1, textM x.2)) ++ 125 :: r' := by
      by_cases z : m = [] <;> by_cases z' : m' = []
      · rw [z, z'] at h ⊢; simpa [commaM] using h
      · subst z
        obtain ⟨b, y, e1, e2, -⟩ := member_body m' z' (125 :: r')
        rw [e1] at h
        simp [commaM] at h
        exact absurd h.1.symm e2
      · subst z'
        obtain ⟨b, y, e1, e2, -⟩ := member_body m z (125 :: r)
        rw [e1] at h
        simp [commaM] at h
        exact absurd h.1 e2
      · obtain ⟨b, y, e1, -, e3⟩ := member_body m z (125 :: r)
        obtain ⟨b', y', e1', -, e3'⟩ := member_body m' z' (125 :: r')
        rw [← e3, ← e3', ← e1, ← e1', h]
    obtain ⟨rfl, e⟩ := member_inj m ihm m' r r' hM hM' ge
    exact ⟨rfl, e⟩
theorem text_once {t t' : J} (h : Fine t) (h' : Fine t') (e : textM t = textM t') : t = t' :=
  (text_inj t t' [] [] h h' (.inl rfl) (.inl rfl) (by rw [e])).1
end Go.Proofs.YtjjoedkigjekcaaGreatDoor
namespace Go.Proofs.YtjjoedkigjekcaaGreatDoor

def J.s : J → List UInt8
  | .mk _ s _ _ => s
def J.l : J → List J
  | .mk _ _ l _ => l
def J.m : J → List (List UInt8 × J)
  | .mk _ _ _ m => m

/-! ## what is wrong with a value -/
/-- the error of a value by itself; gd: is a text well-formed? -/
def oneM (gd : List UInt8 → Bool) (lv : Nat) (k : Int) (s : List UInt8) (ll : Nat) (ns : List (List UInt8)) : Nat :=
  if 32 < lv then 9 else if k < 0 ∨ 6 < k then 17
  else if (k ≠ 3 ∧ k ≠ 4 ∧ s ≠ []) ∨ (k ≠ 5 ∧ 0 < ll) ∨ (k ≠ 6 ∧ 0 < ns.length) ∨ (k = 3 ∧ writtenM s = false) then 5
  else if k = 4 ∧ gd s = false then 1 else if ns.all gd = false then 1 else if ns.Nodup then 0 else 7
def seqF : List (Nat → Nat → Nat × Nat) → Nat → Nat → Nat × Nat
  | [], _, n => (n, 0)
  | f :: l, lv, n => if (f lv n).2 = 0 then seqF l lv (f lv n).1 else f lv n
def lookF (gd : List UInt8 → Bool) (k : Int) (s : List UInt8) (l : List (Nat → Nat → Nat × Nat)) (m : List (List UInt8 × (Nat → Nat → Nat × Nat))) (lv n : Nat) : Nat × Nat :=
  if oneM gd lv k s l.length (m.map fun x => x.1) = 0 then (if (seqF l (lv + 1) (n + 1)).2 = 0 then seqF (m.map fun x => x.2) (lv + 1) (seqF l (lv + 1) (n + 1)).1 else seqF l (lv + 1) (n + 1))
  else (n, oneM gd lv k s l.length (m.map fun x => x.1))
/-- how many values were looked at, and the error -/
def lookM (gd : List UInt8 → Bool) : J → Nat → Nat → Nat × Nat := J.fold (lookF gd)
theorem lookM_mk (gd : List UInt8 → Bool) (k : Int) (s : List UInt8) (l : List J) (m : List (List UInt8 × J)) :
    lookM gd (.mk k s l m) = lookF gd k s (l.map (lookM gd)) (m.map fun x => (x.1, lookM gd x.2)) := J.fold_mk _ _ _ _ _
def checkM (gd : List UInt8 → Bool) (t : J) : Nat × Nat := if (lookM gd t 1 0).2 = 0 then (0, 0) else lookM gd t 1 0
def sizeM : J → Nat := J.fold fun _ _ l m => 1 + l.sum + (m.map fun x => x.2).sum
theorem sizeM_mk (k : Int) (s : List UInt8) (l : List J) (m : List (List UInt8 × J)) : sizeM (.mk k s l m) = 1 + (l.map sizeM).sum + (m.map fun x => sizeM x.2).sum := by
  unfold sizeM
  rw [J.fold_mk]
  simp [Function.comp_def]
theorem one_shape {gd : List UInt8 → Bool} {lv : Nat} {k : Int} {s : List UInt8} {ll : Nat} {ns : List (List UInt8)} (h : oneM gd lv k s ll ns = 0) : Shape k s ll ns.length ∧ lv ≤ 32 ∧ (k = 4 → gd s = true) ∧ (∀ x ∈ ns, gd x = true) ∧ ns.Nodup := by
  unfold oneM at h
  split at h
  · simp at h
  split at h
  · simp at h
  split at h
  · simp at h
  split at h
  · simp at h
  split at h
  · simp at h
  split at h
  · rename_i h1 h2 h3 h4 h5 h6
    refine ⟨⟨by omega, ?_, ?_, ?_, ?_⟩, by omega, ?_, ?_, h6⟩
    · intro a b
      rcases s with _ | ⟨c, s⟩
      · rfl
      · exact absurd (.inl ⟨a, b, by simp⟩) h3
    · intro a
      rcases Nat.eq_zero_or_pos ll with e | e
      · exact e
      · exact absurd (.inr (.inl ⟨a, e⟩)) h3
    · intro a
      rcases Nat.eq_zero_or_pos ns.length with e | e
      · exact e
      · exact absurd (.inr (.inr (.inl ⟨a, e⟩))) h3
    · intro a
      cases e : writtenM s with
      | true => rfl
      | false => exact absurd (.inr (.inr (.inr ⟨a, e⟩))) h3
    · intro a
      cases e : gd s with
      | true => rfl
      | false => exact absurd ⟨a, e⟩ h4
    · have : ns.all gd = true := by simpa using h5
      simpa using this
  · simp at h
theorem seqF_ok {l : List (Nat → Nat → Nat × Nat)} {lv : Nat} : ∀ {n : Nat}, (seqF l lv n).2 = 0 → ∀ f ∈ l, ∃ n', (f lv n').2 = 0 := by
  induction l with
  | nil => intro n h f hf; simp at hf
  | cons g l ih =>
    intro n h f hf
    rw [seqF] at h
    split at h
    · rename_i e
      rcases List.mem_cons.1 hf with rfl | hf
      · exact ⟨n, e⟩
      · exact ih h f hf
    · rename_i e; exact absurd h e
/-- RIGHT: every value is of a right form, its texts are well-formed, its names are different. -/
def Good (gd : List UInt8 → Bool) : J → Prop := J.fold fun k s l m => (Shape k s l.length m.length ∧ (k = 4 → gd s = true) ∧ (∀ x ∈ m.map (fun x => x.1), gd x = true) ∧ (m.map fun x => x.1).Nodup) ∧ (∀ p ∈ l, p) ∧ ∀ p ∈ m, p.2
theorem Good_mk (gd : List UInt8 → Bool) (k : Int) (s : List UInt8) (l : List J) (m : List (List UInt8 × J)) :
    Good gd (.mk k s l m) ↔ (Shape k s l.length m.length ∧ (k = 4 → gd s = true) ∧ (∀ x ∈ m.map (fun x => x.1), gd x = true) ∧ (m.map fun x => x.1).Nodup) ∧ (∀ x ∈ l, Good gd x) ∧ ∀ x ∈ m, Good gd x.2 := by
  unfold Good
  rw [J.fold_mk]
  simp only [List.length_map, List.forall_mem_map, List.map_map, Function.comp_def]
theorem look_good (gd : List UInt8 → Bool) : ∀ t : J, ∀ lv n, (lookM gd t lv n).2 = 0 → Good gd t := by
  refine J.ind ?_
  intro k s l m ihl ihm lv n h
  rw [lookM_mk, lookF] at h
  split at h
  · rename_i e
    obtain ⟨h1, -, h3, h4, h5⟩ := one_shape e
    simp only [List.length_map, List.map_map, Function.comp_def] at h1 h4 h5
    split at h
    · rename_i e2
      rw [Good_mk]
      refine ⟨⟨h1, h3, h4, h5⟩, fun x hx => ?_, fun x hx => ?_⟩
      · obtain ⟨n', e'⟩ := seqF_ok e2 (lookM gd x) (List.mem_map_of_mem hx)
        exact ihl x hx _ _ e'
      · obtain ⟨n', e'⟩ := seqF_ok h (lookM gd x.2) (List.mem_map.2 ⟨(x.1, lookM gd x.2), List.mem_map.2 ⟨x, hx, rfl⟩, rfl⟩)
        exact ihm x hx _ _ e'
    · rename_i e2; exact absurd h e2
  · rename_i e; exact absurd h e
theorem Good.fine {gd : List UInt8 → Bool} : ∀ {t : J}, Good gd t → Fine t := by
  intro t
  refine J.ind (P := fun t => Good gd t → Fine t) ?_ t
  intro k s l m ihl ihm h
  obtain ⟨⟨h1, -⟩, hL, hM⟩ := (Good_mk ..).1 h
  exact (Fine_mk ..).2 ⟨h1, fun x hx => ihl x hx (hL x hx), fun x hx => ihm x hx (hM x hx)⟩
/-- what a look that finds nothing wrong counts -/
theorem seqF_size {l : List J} {gd : List UInt8 → Bool} (ih : ∀ t ∈ l, ∀ lv n, (lookM gd t lv n).2 = 0 → (lookM gd t lv n).1 = n + sizeM t) : ∀ {lv n : Nat}, (seqF (l.map (lookM gd)) lv n).2 = 0 → (seqF (l.map (lookM gd)) lv n).1 = n + (l.map sizeM).sum := by
  induction l with
  | nil => intro lv n _; simp [seqF]
  | cons t l jh =>
    intro lv n h
    rw [List.map_cons, seqF] at h ⊢
    split at h
    · rename_i e
      rw [if_pos e, jh (fun x hx => ih x (by simp [hx])) h, ih t (by simp) _ _ e]
      simp; omega
    · rename_i e; exact absurd h e
theorem seqF_le {l : List J} {gd : List UInt8 → Bool} (ih : ∀ t ∈ l, ∀ lv n, (lookM gd t lv n).1 ≤ n + sizeM t) : ∀ {lv n : Nat}, (seqF (l.map (lookM gd)) lv n).1 ≤ n + (l.map sizeM).sum := by
  induction l with
  | nil => intro lv n; simp [seqF]
  | cons t l jh =>
    intro lv n
    have h1 := ih t (by simp) lv n
    rw [List.map_cons, seqF]
    split
    · have h2 := jh (fun x hx => ih x (by simp [hx])) (lv := lv) (n := (lookM gd t lv n).1)
      simp; omega
    · simp; omega
theorem snd_map (gd : List UInt8 → Bool) (m : List (List UInt8 × J)) : (m.map fun x => (x.1, lookM gd x.2)).map (fun x => x.2) = (m.map fun x => x.2).map (lookM gd) := by simp
theorem look_le (gd : List UInt8 → Bool) : ∀ t : J, ∀ lv n, (lookM gd t lv n).1 ≤ n + sizeM t := by
  refine J.ind ?_
  intro k s l m ihl ihm lv n
  rw [lookM_mk, lookF, sizeM_mk, snd_map]
  split
  · have h1 := seqF_le ihl (lv := lv + 1) (n := n + 1)
    split
    · have h2 := seqF_le (l := m.map fun x => x.2) (gd := gd) (by intro t ht; obtain ⟨x, hx, rfl⟩ := List.mem_map.1 ht; exact ihm x hx) (lv := lv + 1) (n := (seqF (l.map (lookM gd)) (lv + 1) (n + 1)).1)
      rw [show (m.map fun x => sizeM x.2).sum = ((m.map fun x => x.2).map sizeM).sum from by rw [List.map_map]; rfl]
      omega
    · omega
  · simp only []; omega

/-! ## how much a value is -/
def weight : J → Nat := J.fold fun _ s l m => 1 + s.length + l.sum + (m.map fun x => x.1.length + x.2).sum
theorem weight_mk (k : Int) (s : List UInt8) (l : List J) (m : List (List UInt8 × J)) : weight (.mk k s l m) = 1 + s.length + (l.map weight).sum + (m.map fun x => x.1.length + weight x.2).sum := by
  unfold weight
  rw [J.fold_mk]
  simp [Function.comp_def]
def cntL : List (Nat → Nat) → Nat → Nat → Nat
  | [], _, n => n
  | f :: l, most, n => if n ≤ most then cntL l most (n + f (most - n)) else n
def cntM : List (List UInt8 × (Nat → Nat)) → Nat → Nat → Nat
  | [], _, n => n
  | x :: m, most, n => if n ≤ most then cntM m most (n + (x.1.length + x.2 (most - n))) else n
def countM : J → Nat → Nat := J.fold fun _ s l m most => cntM m most (cntL l most (1 + s.length))
theorem countM_mk (k : Int) (s : List UInt8) (l : List J) (m : List (List UInt8 × J)) (most : Nat) :
    countM (.mk k s l m) most = cntM (m.map fun x => (x.1, countM x.2)) most (cntL (l.map countM) most (1 + s.length)) := by
  unfold countM
  rw [J.fold_mk]
theorem cntL_done {l : List (Nat → Nat)} {most n : Nat} (h : most < n) : cntL l most n = n := by
  cases l with
  | nil => rfl
  | cons f l => rw [cntL, if_neg (by omega)]
theorem cntM_done {l : List (List UInt8 × (Nat → Nat))} {most n : Nat} (h : most < n) : cntM l most n = n := by
  cases l with
  | nil => rfl
  | cons f l => rw [cntM, if_neg (by omega)]
theorem cntL_sum {l : List J} (ih : ∀ t ∈ l, ∀ most, (weight t ≤ most → countM t most = weight t) ∧ (most < weight t → most < countM t most)) : ∀ {most n : Nat}, n ≤ most →
    (n + (l.map weight).sum ≤ most → cntL (l.map countM) most n = n + (l.map weight).sum) ∧ (most < n + (l.map weight).sum → most < cntL (l.map countM) most n) := by
  induction l with
  | nil => intro most n hn; simp [cntL]
  | cons t l jh =>
    intro most n hn
    obtain ⟨h1, h2⟩ := ih t (by simp) (most - n)
    rw [show cntL ((t :: l).map countM) most n = if n ≤ most then cntL (l.map countM) most (n + countM t (most - n)) else n from rfl, if_pos hn]
    simp only [List.map_cons, List.sum_cons]
    by_cases g : weight t ≤ most - n
    · obtain ⟨h3, h4⟩ := jh (fun x hx => ih x (by simp [hx])) (most := most) (n := n + weight t) (by omega)
      rw [h1 g]
      exact ⟨fun h => by rw [h3 (by omega)]; omega, fun h => h4 (by omega)⟩
    · have := h2 (by omega)
      refine ⟨fun h => by omega, fun _ => ?_⟩
      rw [cntL_done (by omega)]; omega
theorem cntM_sum {m : List (List UInt8 × J)} (ih : ∀ x ∈ m, ∀ most, (weight x.2 ≤ most → countM x.2 most = weight x.2) ∧ (most < weight x.2 → most < countM x.2 most)) : ∀ {most n : Nat}, n ≤ most →
    (n + (m.map fun x => x.1.length + weight x.2).sum ≤ most → cntM (m.map fun x => (x.1, countM x.2)) most n = n + (m.map fun x => x.1.length + weight x.2).sum) ∧ (most < n + (m.map fun x => x.1.length + weight x.2).sum → most < cntM (m.map fun x => (x.1, countM x.2)) most n) := by
  induction m with
  | nil => intro most n hn; simp [cntM]
  | cons x m jh =>
    intro most n hn
    obtain ⟨h1, h2⟩ := ih x (by simp) (most - n)
    rw [show cntM ((x :: m).map fun x => (x.1, countM x.2)) most n = if n ≤ most then cntM (m.map fun x => (x.1, countM x.2)) most (n + (x.1.length + countM x.2 (most - n))) else n from rfl, if_pos hn]
    simp only [List.map_cons, List.sum_cons]
    by_cases g : weight x.2 ≤ most - n
    · rw [h1 g]
      by_cases g2 : n + (x.1.length + weight x.2) ≤ most
      · obtain ⟨h3, h4⟩ := jh (fun x hx => ih x (by simp [hx])) (most := most) (n := n + (x.1.length + weight x.2)) g2
        exact ⟨fun h => by rw [h3 (by omega)]; omega, fun h => h4 (by omega)⟩
      · refine ⟨fun h => by omega, fun _ => ?_⟩
        rw [cntM_done (by omega)]; omega
    · have := h2 (by omega)
      refine ⟨fun h => by omega, fun _ => ?_⟩
      rw [cntM_done (by omega)]; omega
/-- IS A VALUE TOO GREAT? -/
theorem count_weight : ∀ t : J, ∀ most, (weight t ≤ most → countM t most = weight t) ∧ (most < weight t → most < countM t most) := by
  refine J.ind ?_
  intro k s l m ihl ihm most
  rw [countM_mk, weight_mk]
  by_cases g : 1 + s.length ≤ most
  · obtain ⟨h1, h2⟩ := cntL_sum ihl g
    by_cases g2 : 1 + s.length + (l.map weight).sum ≤ most
    · rw [h1 g2]
      exact cntM_sum ihm g2
    · have := h2 (by omega)
      exact ⟨fun h => by omega, fun _ => by rw [cntM_done this]; exact this⟩
  · rw [cntL_done (by omega), cntM_done (by omega)]
    exact ⟨fun h => by omega, fun _ => by omega⟩
/-- all texts and names have at most so many bytes, all lists and members at most so many -/
def Small (B : Nat) : J → Prop := J.fold fun _ s l m => (s.length ≤ B ∧ l.length ≤ B ∧ m.length ≤ B ∧ ∀ x ∈ m, x.1.length ≤ B) ∧ (∀ p ∈ l, p) ∧ ∀ p ∈ m, p.2
theorem Small_mk (B : Nat) (k : Int) (s : List UInt8) (l : List J) (m : List (List UInt8 × J)) :
    Small B (.mk k s l m) ↔ (s.length ≤ B ∧ l.length ≤ B ∧ m.length ≤ B ∧ ∀ x ∈ m, x.1.length ≤ B) ∧ (∀ x ∈ l, Small B x) ∧ ∀ x ∈ m, Small B x.2 := by
  unfold Small
  rw [J.fold_mk]
  simp only [List.length_map, List.forall_mem_map]
end Go.Proofs.YtjjoedkigjekcaaGreatDoor
namespace Go.Proofs.YtjjoedkigjekcaaGreatDoor
open Go.RowKit

def strL (l : List UInt8) : ByteArray := ⟨l.toArray⟩
theorem strL_toList (l : List UInt8) : (strL l).data.toList = l := rfl
theorem strL_size (l : List UInt8) : (strL l).size = l.length := rfl
theorem strL_of (s : ByteArray) : strL s.data.toList = s := by simp [strL]
theorem strL_inj {a b : List UInt8} : strL a = strL b ↔ a = b := ⟨fun h => by have := congrArg (fun s : ByteArray => s.data.toList) h; simpa [strL_toList] using this, fun h => by rw [h]⟩
theorem strL_append (x y : List UInt8) : strL x ++ strL y = strL (x ++ y) := by
  apply ByteArray.ext
  simp [strL]
/-- the n cells at a place are these -/
def CellsAt (W : World) (b o : Nat) (ds : List Value) (n : Nat) : Prop := ds.length = n ∧ ∀ i u, ds[i]? = some u → W.cell? ⟨b, o + i, none⟩ = some u
theorem CellsAt.below {W W' : World} {b o : Nat} {ds : List Value} {n : Nat} (h : CellsAt W b o ds n) (hb : Below W.heap.size W W') : CellsAt W' b o ds n :=
  ⟨h.1, fun i u hu => (hb.cell (p := ⟨b, o + i, none⟩) (lt_of_cell (h.2 i u hu))).trans (h.2 i u hu)⟩
/-- VALUES IN MEMORY: the four cells of one that is the JSON value t -/
def VJ (W : World) : J → List Value → Prop := J.fold fun k s l m cs =>
  ∃ (a : Option Addr) (ca : Nat) (b : Option Addr) (cb : Nat), cs = [.int .i64 k, .string (strL s), .slice a l.length ca, .slice b m.length cb] ∧
    (∀ j P, l[j]? = some P → ∃ ba oa ds, a = some ⟨ba, oa, none⟩ ∧ CellsAt W ba (oa + j * 4) ds 4 ∧ P ds) ∧
    (∀ j x, m[j]? = some x → ∃ bb ob ds, b = some ⟨bb, ob, none⟩ ∧ CellsAt W bb (ob + j * 5) (.string (strL x.1) :: ds) 5 ∧ x.2 ds)
theorem VJ_mk (W : World) (k : Int) (s : List UInt8) (l : List J) (m : List (List UInt8 × J)) (cs : List Value) :
    VJ W (.mk k s l m) cs ↔ ∃ (a : Option Addr) (ca : Nat) (b : Option Addr) (cb : Nat), cs = [.int .i64 k, .string (strL s), .slice a l.length ca, .slice b m.length cb] ∧
      (∀ j t, l[j]? = some t → ∃ ba oa ds, a = some ⟨ba, oa, none⟩ ∧ CellsAt W ba (oa + j * 4) ds 4 ∧ VJ W t ds) ∧
      (∀ j x, m[j]? = some x → ∃ bb ob ds, b = some ⟨bb, ob, none⟩ ∧ CellsAt W bb (ob + j * 5) (.string (strL x.1) :: ds) 5 ∧ VJ W x.2 ds) := by
  unfold VJ
  rw [J.fold_mk]
  simp only [List.length_map, List.getElem?_map]
  constructor
  · rintro ⟨a, ca, b, cb, h1, h2, h3⟩
    refine ⟨a, ca, b, cb, h1, fun j t ht => h2 j _ (by rw [ht]; rfl), fun j x hx => ?_⟩
    exact h3 j (x.1, _) (by rw [hx]; rfl)
  · rintro ⟨a, ca, b, cb, h1, h2, h3⟩
    refine ⟨a, ca, b, cb, h1, fun j P hP => ?_, fun j x hx => ?_⟩
    · cases e : l[j]? with
      | none => rw [e] at hP; cases hP
      | some t => rw [e] at hP; cases hP; exact h2 j t e
    · cases e : m[j]? with
      | none => rw [e] at hx; cases hx
      | some y => rw [e] at hx; cases hx; exact h3 j y e
theorem VJ.len {W : World} {t : J} {cs : List Value} (h : VJ W t cs) : cs.length = 4 := by
  obtain ⟨k, s, l, m⟩ := t
  obtain ⟨a, ca, b, cb, rfl, -, -⟩ := (VJ_mk ..).1 h
  rfl
theorem VJ.below {W W' : World} (hb : Below W.heap.size W W') : ∀ {t : J} {cs : List Value}, VJ W t cs → VJ W' t cs := by
  intro t
  refine J.ind (P := fun t => ∀ {cs}, VJ W t cs → VJ W' t cs) ?_ t
  intro k s l m ihl ihm cs h
  obtain ⟨a, ca, b, cb, h1, h2, h3⟩ := (VJ_mk ..).1 h
  refine (VJ_mk ..).2 ⟨a, ca, b, cb, h1, fun j t ht => ?_, fun j x hx => ?_⟩
  · obtain ⟨ba, oa, ds, e, hc, hv⟩ := h2 j t ht
    exact ⟨ba, oa, ds, e, hc.below hb, ihl t (List.mem_of_getElem? ht) hv⟩
  · obtain ⟨bb, ob, ds, e, hc, hv⟩ := h3 j x hx
    exact ⟨bb, ob, ds, e, hc.below hb, ihm x (List.mem_of_getElem? hx) hv⟩
/-- the cells of a value, one by one -/
theorem VJ.cells {W : World} {t : J} {cs : List Value} (h : VJ W t cs) : ∃ a ca b cb, cs = [.int .i64 t.k, .string (strL t.s), .slice a t.l.length ca, .slice b t.m.length cb] := by
  obtain ⟨k, s, l, m⟩ := t
  obtain ⟨a, ca, b, cb, h1, -, -⟩ := (VJ_mk ..).1 h
  exact ⟨a, ca, b, cb, h1⟩
theorem cells4 {W : World} {b o : Nat} {ds : List Value} (h : CellsAt W b o ds 4) : ∃ c0 c1 c2 c3, ds = [c0, c1, c2, c3] ∧ W.cell? ⟨b, o, none⟩ = some c0 ∧ W.cell? ⟨b, o + 1, none⟩ = some c1 ∧ W.cell? ⟨b, o + 2, none⟩ = some c2 ∧ W.cell? ⟨b, o + 3, none⟩ = some c3 := by
  obtain ⟨hl, h⟩ := h
  match ds, hl with
  | [c0, c1, c2, c3], _ => exact ⟨c0, c1, c2, c3, rfl, h 0 c0 rfl, h 1 c1 rfl, h 2 c2 rfl, h 3 c3 rfl⟩
theorem cells5 {W : World} {b o : Nat} {n : Value} {ds : List Value} (h : CellsAt W b o (n :: ds) 5) : ∃ c0 c1 c2 c3, ds = [c0, c1, c2, c3] ∧ W.cell? ⟨b, o, none⟩ = some n ∧ W.cell? ⟨b, o + 1, none⟩ = some c0 ∧ W.cell? ⟨b, o + 2, none⟩ = some c1 ∧ W.cell? ⟨b, o + 3, none⟩ = some c2 ∧ W.cell? ⟨b, o + 4, none⟩ = some c3 := by
  obtain ⟨hl, h⟩ := h
  match ds, hl with
  | [c0, c1, c2, c3], _ => exact ⟨c0, c1, c2, c3, rfl, h 0 n rfl, h 1 c0 rfl, h 2 c1 rfl, h 3 c2 rfl, h 4 c3 rfl⟩
end Go.Proofs.YtjjoedkigjekcaaGreatDoor

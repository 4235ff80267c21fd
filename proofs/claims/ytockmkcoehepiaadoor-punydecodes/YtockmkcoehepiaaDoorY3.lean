/-
  What is proved here: plain mathematics of Punycode (no program): what was encoded is decoded as it was.
-/
import Derived.Test.YtockmkcoehepiaaDoorY2
namespace Go.Proofs.YtockmkcoehepiaaDoor

theorem getD_mem {l : List Int} {k : Nat} (h : k < l.length) : l.getD k 0 ∈ l := by
  rw [List.getD_eq_getElem?_getD, List.getElem?_eq_getElem h]
  exact List.getElem_mem _
/-- the runes that are there when those of P are put in -/
def presM (l P : List Int) : List Int := ((List.range l.length).filter (fun j => decide (l.getD j 0 < 128 ∨ (j : Int) ∈ P))).map (fun j => l.getD j 0)
theorem pres_nil (l : List Int) : presM l [] = plainM l := by
  unfold presM plainM
  simp only [List.not_mem_nil, or_false]
  conv => rhs; rw [← range_map l]
  rw [List.filter_map]
  rfl
theorem pres_all (l : List Int) : presM l (ordM l) = l := by
  unfold presM
  rw [List.filter_eq_self.2 ?_, range_map]
  intro j hj
  have hj' := List.mem_range.1 hj
  simp only [decide_eq_true_eq]
  by_cases h : l.getD j 0 < 128
  · exact .inl h
  · exact .inr (ord_mem.2 ⟨by omega, by omega, by unfold rn; rw [Int.toNat_natCast]; omega⟩)
theorem range_cut (n k : Nat) (h : k < n) : List.range n = List.range k ++ k :: (List.range (n - k - 1)).map (fun j => k + 1 + j) := by
  have h1 : List.range n = List.range (k + 1 + (n - k - 1)) := by congr 1; omega
  rw [h1, List.range_add, List.range_succ, List.append_assoc]
  rfl
theorem pres_put {l P S : List Int} {k : Int} (h : ordM l = P ++ k :: S) : presM l (P ++ [k]) = insM (presM l P) (aheadM l k.toNat) (rn l k) := by
  have hk := (ord_mem (l := l) (k := k)).1 (by rw [h]; simp)
  have hpw := (ord_is l).2
  rw [h, List.pairwise_append, List.pairwise_cons] at hpw
  obtain ⟨q, rfl⟩ : ∃ q : Nat, k = q := ⟨k.toNat, by omega⟩
  rw [Int.toNat_natCast]
  have hkP : (q : Int) ∉ P := fun e => lex_irr l _ (hpw.2.2 _ e _ (by simp))
  have hr : rn l (q : Int) = l.getD q 0 := by unfold rn; rw [Int.toNat_natCast]
  have hin : ∀ j : Nat, j < l.length → j ≠ q → ((j : Int) ∈ P ++ [(q : Int)] ↔ (j : Int) ∈ P) := by
    intro j _ hj
    simp
    intro e
    omega
  have hA : ∀ j : Nat, j < q → ((l.getD j 0 < 128 ∨ (j : Int) ∈ P) ↔ l.getD j 0 ≤ l.getD q 0) := by
    intro j hj
    constructor
    · rintro (e | e)
      · omega
      · have := hpw.2.2 _ e _ (List.mem_cons_self)
        simp only [lexLt, rn, Int.toNat_natCast] at this
        omega
    · intro e
      by_cases g : l.getD j 0 < 128
      · exact .inl g
      · right
        have hm : (j : Int) ∈ ordM l := ord_mem.2 ⟨by omega, by omega, by unfold rn; rw [Int.toNat_natCast]; omega⟩
        rw [h] at hm
        rcases List.mem_append.1 hm with m | m
        · exact m
        · rcases List.mem_cons.1 m with m | m
          · omega
          · have := hpw.2.1.1 _ m
            simp only [lexLt, rn, Int.toNat_natCast] at this
            omega
  have e1 : ∀ Q : List Int, presM l Q = ((List.range q).filter (fun j => decide (l.getD j 0 < 128 ∨ (j : Int) ∈ Q))).map (fun j => l.getD j 0) ++ ((if decide (l.getD q 0 < 128 ∨ (q : Int) ∈ Q) = true then [l.getD q 0] else []) ++ (((List.range (l.length - q - 1)).map (fun j => q + 1 + j)).filter (fun j => decide (l.getD j 0 < 128 ∨ (j : Int) ∈ Q))).map (fun j => l.getD j 0)) := by
    intro Q
    unfold presM
    rw [range_cut l.length q (by omega), List.filter_append, List.map_append, List.filter_cons]
    congr 1
    split <;> simp
  rw [e1, e1, if_pos (by simp), if_neg (by simp; exact ⟨by simpa [hr] using hk.2.2, hkP⟩)]
  have f1 : (List.range q).filter (fun j => decide (l.getD j 0 < 128 ∨ (j : Int) ∈ P ++ [(q : Int)])) = (List.range q).filter (fun j => decide (l.getD j 0 < 128 ∨ (j : Int) ∈ P)) := by
    refine List.filter_congr (fun j hj => ?_)
    have := List.mem_range.1 hj
    rw [decide_eq_decide, hin j (by omega) (by omega)]
  have f2 : ((List.range (l.length - q - 1)).map (fun j => q + 1 + j)).filter (fun j => decide (l.getD j 0 < 128 ∨ (j : Int) ∈ P ++ [(q : Int)])) = ((List.range (l.length - q - 1)).map (fun j => q + 1 + j)).filter (fun j => decide (l.getD j 0 < 128 ∨ (j : Int) ∈ P)) := by
    refine List.filter_congr (fun j hj => ?_)
    obtain ⟨i, hi, rfl⟩ := List.mem_map.1 hj
    have := List.mem_range.1 hi
    rw [decide_eq_decide, hin _ (by omega) (by omega)]
  rw [f1, f2]
  have hlen : (((List.range q).filter (fun j => decide (l.getD j 0 < 128 ∨ (j : Int) ∈ P))).map (fun j => l.getD j 0)).length = aheadM l q := by
    rw [List.length_map, ← List.countP_eq_length_filter, ahead_range l q (by omega)]
    refine List.countP_congr (fun j hj => ?_)
    have := List.mem_range.1 hj
    simp only [decide_eq_true_eq]
    exact hA j this
  unfold insM
  rw [List.nil_append, ← hlen, List.take_left, List.drop_left, hr]
  rfl
theorem pres_len {l P S : List Int} (h : ordM l = P ++ S) : (presM l P).length = (plainM l).length + P.length := by
  have key : ∀ (n : Nat) (P S : List Int), P.length = n → ordM l = P ++ S → (presM l P).length = (plainM l).length + P.length := by
    intro n
    induction n with
    | zero =>
      intro P S hP h
      obtain rfl : P = [] := List.eq_nil_of_length_eq_zero hP
      rw [pres_nil]; rfl
    | succ n ih =>
      intro P S hP h
      obtain ⟨P', k', rfl⟩ : ∃ P' k', P = P' ++ [k'] := ⟨P.dropLast, P.getLast (by intro e; simp [e] at hP), (List.dropLast_concat_getLast _).symm⟩
      have h' : ordM l = P' ++ k' :: S := by rw [h]; simp
      have h1 := ih P' (k' :: S) (by simpa using hP) h'
      have h2 := ahead_present h'
      rw [pres_put h']
      unfold insM
      simp
      omega
  exact key _ P S rfl h
/-- the digits that are written for the rest -/
def tailE (l : List Int) : List Int → List Int → List Int
  | _, [] => []
  | P, k :: S => digM (numE (afterE l P) (rn l k) (aheadM l k.toNat)) (afterE l P).bias ++ tailE l (P ++ [k]) S
theorem tail_out (l : List Int) : ∀ (S P : List Int), (afterE l (P ++ S)).out = (afterE l P).out ++ tailE l P S := by
  intro S
  induction S with
  | nil => intro P; simp [tailE]
  | cons k S ih =>
    intro P
    rw [show P ++ k :: S = (P ++ [k]) ++ S by simp, ih, after_snoc]
    show ((afterE l P).out ++ digM _ _) ++ _ = _
    rw [List.append_assoc]
    rfl
theorem tail_bd {l : List Int} (hl : l.length ≤ 120) (hr : ∀ x ∈ l, rgtB x = true) : ∀ (S P : List Int), ordM l = P ++ S → ∀ b ∈ tailE l P S, 48 ≤ b ∧ b ≤ 122 := by
  have hr' : ∀ x ∈ l, x ≤ 1114111 := fun x hx => by have := hr x hx; simp [rgtB] at this; omega
  intro S
  induction S with
  | nil => intro P h b hb; simp [tailE] at hb
  | cons k S ih =>
    intro P h b hb
    obtain ⟨o1, o2, o3, o4, o5, o6⟩ := ord_step hl hr' P S k h
    have hd := num_bd o1 o2 o3 (by omega) o4 o5
    rcases List.mem_append.1 hb with e | e
    · exact dig_bd hd.1 b e
    · exact ih (P ++ [k]) (by rw [h]; simp) b e
/-- WHAT WAS ENCODED IS DECODED AS IT WAS: from wherever it is come to -/
theorem back_from {l : List Int} (hl : l.length ≤ 120) (hr : ∀ x ∈ l, rgtB x = true) : ∀ (S P : List Int) (f a : Nat), ordM l = P ++ S → (tailE l P S).length ≤ f →
    decR f ⟨(afterE l P).n, (afterE l P).i, (afterE l P).bias, (afterE l P).first, presM l P⟩ (tailE l P S) a = .ok l := by
  have hr' : ∀ x ∈ l, x ≤ 1114111 := fun x hx => by have := hr x hx; simp [rgtB] at this; omega
  intro S
  induction S with
  | nil =>
    intro P f a h _
    rw [show tailE l P [] = [] from rfl, decR_nil]
    show DecR.ok (presM l P) = _
    rw [show P = ordM l by rw [h]; simp, pres_all]
  | cons k S ih =>
    intro P f a h hf
    obtain ⟨o1, o2, o3, o4, o5, o6⟩ := ord_step hl hr' P S k h
    have hd := num_bd o1 o2 o3 (by omega) o4 o5
    have hk := (ord_mem (l := l) (k := k)).1 (by rw [h]; simp)
    have hpl := pres_len (P := P) (S := k :: S) h
    have hmm := after_m l P
    generalize hN : numE (afterE l P) (rn l k) (aheadM l k.toNat) = d at *
    have hdl : 0 < (digM d (afterE l P).bias).length := by
      unfold digM
      rw [List.length_map]
      cases d.toNat with
      | zero => simp [digR]
      | succ f => rw [digR]; split <;> simp
    have ht : tailE l P (k :: S) = digM d (afterE l P).bias ++ tailE l (P ++ [k]) S := by rw [tailE, hN]
    rw [ht] at hf ⊢
    rw [List.length_append] at hf
    obtain ⟨f', rfl⟩ : ∃ f', f = f' + 1 := ⟨f - 1, by omega⟩
    have hrd := rd_dig (afterE l P).bias (tailE l (P ++ [k]) S) d.toNat d 0 0 1 a hd.1 (Nat.le_refl _) (by omega) (by omega) (by omega)
    rw [show (digR d.toNat d (afterE l P).bias 0).map sgnM = digM d (afterE l P).bias from rfl, show (0 : Int) + d * 1 = d by omega] at hrd
    cases hc : digM d (afterE l P).bias ++ tailE l (P ++ [k]) S with
    | nil => simp at hc; simp [hc.1] at hdl
    | cons b bs =>
      rw [decR_cons, ← hc]
      show contM f' _ (rdM (afterE l P).bias _ a 0 0 1) = _
      rw [hrd]
      have hq : d + (afterE l P).i = (rn l k - (afterE l P).n) * ((afterE l P).m + 1) + aheadM l k.toNat := by rw [← hN]; unfold numE; omega
      have hlen : ((presM l P).length : Int) + 1 = (afterE l P).m + 1 := by rw [hpl, hmm]; simp
      have er : rD ⟨(afterE l P).n, (afterE l P).i, (afterE l P).bias, (afterE l P).first, presM l P⟩ d = rn l k := by
        show (afterE l P).n + (d + (afterE l P).i) / (((presM l P).length : Int) + 1) = _
        rw [hlen, hq, Int.add_comm ((rn l k - (afterE l P).n) * _), Int.add_mul_ediv_right _ _ (by omega), Int.ediv_eq_zero_of_lt (by omega) (by omega)]
        omega
      have ea : aD ⟨(afterE l P).n, (afterE l P).i, (afterE l P).bias, (afterE l P).first, presM l P⟩ d = aheadM l k.toNat := by
        show (d + (afterE l P).i) % (((presM l P).length : Int) + 1) = _
        rw [hlen, hq, Int.add_comm ((rn l k - (afterE l P).n) * _), Int.add_mul_emod_self_right, Int.emod_eq_of_lt (by omega) (by omega)]
      have hrk : rgtB (rn l k) = true := hr _ (getD_mem (by omega))
      rw [contM_ok, er, if_pos hrk]
      have hgo : goD ⟨(afterE l P).n, (afterE l P).i, (afterE l P).bias, (afterE l P).first, presM l P⟩ d = ⟨(afterE l (P ++ [k])).n, (afterE l (P ++ [k])).i, (afterE l (P ++ [k])).bias, (afterE l (P ++ [k])).first, presM l (P ++ [k])⟩ := by
        rw [after_snoc, pres_put h]
        unfold goD stepE putE
        rw [er, ea, hN, Int.toNat_natCast]
        congr 1
        show biasM d (((presM l P).length : Int) + 1) _ = _
        rw [hlen]
      rw [hgo]
      exact ih (P ++ [k]) f' _ (by rw [h]; simp) (by omega)
theorem enc_split (l : List Int) : encM l = (startE l).out ++ tailE l [] (ordM l) := by
  have := tail_out l (ordM l) []
  rw [List.nil_append] at this
  exact this
theorem getD_right {A B : List Int} {i : Nat} (h : A.length ≤ i) : (A ++ B).getD i 0 = B.getD (i - A.length) 0 := by
  rw [List.getD_eq_getElem?_getD, List.getElem?_append_right h, List.getD_eq_getElem?_getD]
theorem back_is {l : List Int} (hl : l.length ≤ 120) (hr : ∀ x ∈ l, rgtB x = true) : ∃ f, IsFrom (encM l) f ∧ decM (encM l) f = .ok l ∧ ∀ b ∈ encM l, 0 ≤ b ∧ b ≤ 127 := by
  have htb := tail_bd hl hr (ordM l) [] rfl
  have hb := back_from hl hr (ordM l) [] (encM l).length
  have hpl : ∀ x ∈ plainM l, 0 ≤ x ∧ x ≤ 127 := by
    intro x hx
    have h1 := (List.mem_filter.1 hx)
    have h2 := hr x h1.1
    simp [rgtB] at h2
    simp at h1
    omega
  have htl : ∀ (A : List Int), (∀ i, A.length ≤ i → i < (A ++ tailE l [] (ordM l)).length → (A ++ tailE l [] (ordM l)).getD i 0 ≠ 45) := by
    intro A i h1 h2
    rw [getD_right h1]
    rw [List.length_append] at h2
    have := htb _ (getD_mem (l := tailE l [] (ordM l)) (k := i - A.length) (by omega))
    omega
  by_cases h0 : (plainM l).length = 0
  · have hs : (startE l).out = [] := by
      show (if (plainM l).length = 0 then plainM l else plainM l ++ [45]) = _
      rw [if_pos h0]; exact List.eq_nil_of_length_eq_zero h0
    have he : encM l = tailE l [] (ordM l) := by rw [enc_split, hs]; rfl
    refine ⟨0, ⟨Nat.zero_le _, .inl rfl, ?_⟩, ?_, ?_⟩
    · intro i h1 h2 h3
      rw [he] at h3 ⊢
      exact htl [] i (Nat.zero_le _) h3
    · unfold decM
      rw [← hb 0 rfl (by rw [he]; exact Nat.le_refl _)]
      show decR _ ⟨128, 0, 72, true, (encM l).take 0⟩ ((encM l).drop 0) 0 = decR _ ⟨128, 0, 72, true, presM l []⟩ _ 0
      rw [pres_nil, List.eq_nil_of_length_eq_zero h0, List.take_zero, List.drop_zero, he]
    · rw [he]
      intro b hb'
      have := htb b hb'
      omega
  · have hs : (startE l).out = plainM l ++ [45] := by
      show (if (plainM l).length = 0 then plainM l else plainM l ++ [45]) = _
      rw [if_neg h0]
    have he : encM l = (plainM l ++ [45]) ++ tailE l [] (ordM l) := by rw [enc_split, hs]
    refine ⟨(plainM l).length + 1, ⟨by rw [he]; simp, .inr ⟨by omega, ?_⟩, ?_⟩, ?_, ?_⟩
    · rw [he, List.append_assoc]
      simp
    · intro i h1 h2 h3
      rw [he] at h3 ⊢
      exact htl _ i (by simpa using h2) h3
    · unfold decM
      rw [← hb ((plainM l).length + 1) rfl (by rw [he]; simp; omega)]
      show decR _ ⟨128, 0, 72, true, (encM l).take ((plainM l).length + 1 - 1)⟩ ((encM l).drop ((plainM l).length + 1)) _ = decR _ ⟨128, 0, 72, true, presM l []⟩ _ _
      rw [pres_nil, he]
      have e1 : (plainM l ++ [45] ++ tailE l [] (ordM l)).take ((plainM l).length + 1 - 1) = plainM l := by
        rw [Nat.add_sub_cancel, List.append_assoc, List.take_left]
      have e2 : (plainM l ++ [45] ++ tailE l [] (ordM l)).drop ((plainM l).length + 1) = tailE l [] (ordM l) := by
        rw [show (plainM l).length + 1 = (plainM l ++ [45]).length by simp, List.drop_left]
      rw [e1, e2]
    · rw [he]
      intro b hb'
      rcases List.mem_append.1 hb' with e | e
      · rcases List.mem_append.1 e with e | e
        · exact hpl b e
        · simp at e; omega
      · have := htb b e
        omega
end Go.Proofs.YtockmkcoehepiaaDoor

/-
  What is proved here: plain mathematics of Punycode (no program): what was decoded is encoded to the same, its digits in small letters.
-/
import Derived.Test.YtockmkcoehepiaaDoorY3
namespace Go.Proofs.YtockmkcoehepiaaDoor

theorem ins_len (l : List Int) (a : Nat) (r : Int) : (insM l a r).length = l.length + 1 := by unfold insM; simp; omega
theorem ins_get {l : List Int} {a : Nat} (r : Int) (ha : a ≤ l.length) (j : Nat) : (insM l a r).getD j 0 = if j < a then l.getD j 0 else if j = a then r else l.getD (j - 1) 0 := by
  unfold insM
  by_cases h1 : j < a
  · rw [if_pos h1, List.getD_eq_getElem?_getD, List.getElem?_append_left (by simp; omega), List.getElem?_take_of_lt h1, List.getD_eq_getElem?_getD]
  · rw [if_neg h1, getD_right (by simp; omega)]
    rw [List.length_take, Nat.min_eq_left ha]
    by_cases h2 : j = a
    · rw [if_pos h2, h2, Nat.sub_self]; rfl
    · rw [if_neg h2]
      obtain ⟨q, hq⟩ : ∃ q, j - a = q + 1 := ⟨j - a - 1, by omega⟩
      rw [hq, List.getD_cons_succ, List.getD_eq_getElem?_getD, List.getElem?_drop, List.getD_eq_getElem?_getD]
      congr 2
      omega
/-- a number behind which one was put in -/
def shM (a : Nat) (k : Int) : Int := if k < a then k else k + 1
section
variable {l : List Int} {a : Nat} {r : Int} (ha : a ≤ l.length) (hr : 128 ≤ r) (h1 : ∀ j, j < l.length → l.getD j 0 ≤ r) (h2 : ∀ j, j < l.length → l.getD j 0 = r → j < a)
include ha
theorem rn_sh {k : Int} (hk : 0 ≤ k) : rn (insM l a r) (shM a k) = rn l k := by
  unfold rn shM
  rw [ins_get r ha]
  by_cases h : k < a
  · rw [if_pos h, if_pos (by omega)]
  · rw [if_neg h, if_neg (by omega), if_neg (by omega)]
    congr 1
    omega
theorem rn_at : rn (insM l a r) a = r := by
  unfold rn
  rw [ins_get r ha, Int.toNat_natCast, if_neg (by omega), if_pos rfl]
omit ha in
include hr in
theorem plain_ins : plainM (insM l a r) = plainM l := by
  unfold plainM insM
  rw [List.filter_append, List.filter_cons, if_neg (by simp; omega), ← List.filter_append, List.take_append_drop]
include hr h1 h2 in
theorem ord_ins : ordM (insM l a r) = (ordM l).map (shM a) ++ [(a : Int)] := by
  refine rise_unique (lex_irr _) (lex_asy _) _ _ (ord_is _).2 ?_ ?_
  · rw [List.pairwise_append]
    refine ⟨?_, List.pairwise_singleton _ _, ?_⟩
    · rw [List.pairwise_map]
      refine List.Pairwise.imp_of_mem ?_ (ord_is l).2
      intro x y hx hy h
      have hx' := ord_mem.1 hx
      have hy' := ord_mem.1 hy
      unfold lexLt at *
      rw [rn_sh ha hx'.1, rn_sh ha hy'.1]
      unfold shM
      split <;> split <;> omega
    · intro x hx y hy
      obtain ⟨k, hk, rfl⟩ := List.mem_map.1 hx
      have hk' := ord_mem.1 hk
      obtain rfl : y = a := by simpa using hy
      unfold lexLt
      rw [rn_sh ha hk'.1, rn_at ha]
      have e1 := h1 k.toNat (by omega)
      have e2 := h2 k.toNat (by omega)
      unfold rn shM
      split <;> omega
  · intro x
    rw [ord_mem, List.mem_append, List.mem_map, List.mem_singleton]
    constructor
    · rintro ⟨g1, g2, g3⟩
      rw [ins_len] at g2
      by_cases e : x = a
      · exact .inr e
      · refine .inl ⟨if x < a then x else x - 1, ord_mem.2 ?_, ?_⟩
        · have : rn l (if x < a then x else x - 1) = rn (insM l a r) x := by
            rw [← rn_sh ha (r := r) (by split <;> omega)]
            congr 1
            unfold shM
            by_cases g : x < a
            · rw [if_pos g, if_pos g]
            · rw [if_neg g, if_neg (by omega)]; omega
          rw [this]
          exact ⟨by split <;> omega, by split <;> omega, g3⟩
        · unfold shM
          by_cases g : x < a
          · rw [if_pos g, if_pos g]
          · rw [if_neg g, if_neg (by omega)]; omega
    · rintro (⟨k, hk, rfl⟩ | rfl)
      · have hk' := ord_mem.1 hk
        rw [rn_sh ha hk'.1, ins_len]
        unfold shM
        exact ⟨by split <;> omega, by split <;> omega, hk'.2.2⟩
      · rw [rn_at ha, ins_len]
        exact ⟨by omega, by omega, hr⟩
include h1 in
theorem ahead_at : aheadM (insM l a r) a = a := by
  unfold aheadM
  rw [ins_get r ha, if_neg (by omega), if_pos rfl]
  have e : (insM l a r).take a = l.take a := by
    unfold insM
    rw [List.take_append_of_le_length (by simp; omega), List.take_take, Nat.min_self]
  rw [e, List.countP_eq_length.2 ?_]
  · simp; omega
  · intro x hx
    obtain ⟨j, hj, rfl⟩ := List.getElem_of_mem hx
    rw [List.length_take] at hj
    have := h1 j (by omega)
    rw [List.getElem_take]
    rw [List.getD_eq_getElem?_getD, List.getElem?_eq_getElem (by omega)] at this
    simpa using this
include h1 h2 in
theorem ahead_sh {k : Int} (hk : 0 ≤ k) (hkl : k < l.length) : aheadM (insM l a r) (shM a k).toNat = aheadM l k.toNat := by
  have hg : (insM l a r).getD (shM a k).toNat 0 = l.getD k.toNat 0 := rn_sh (r := r) ha hk
  unfold aheadM
  rw [hg]
  by_cases h : k < a
  · have e : (insM l a r).take (shM a k).toNat = l.take k.toNat := by
      unfold insM shM
      rw [if_pos h, List.take_append_of_le_length (by simp; omega), List.take_take, Nat.min_eq_left (by omega)]
    rw [e]
  · have e : (insM l a r).take (shM a k).toNat = l.take a ++ r :: (l.drop a).take (k.toNat - a) := by
      unfold insM shM
      rw [if_neg h, show (k + 1).toNat = (l.take a).length + (k.toNat - a + 1) by simp; omega, List.take_length_add_append]
      rfl
    have e' : l.take k.toNat = l.take a ++ (l.drop a).take (k.toNat - a) := by
      conv => lhs; rw [show k.toNat = a + (k.toNat - a) by omega, List.take_add]
    rw [e, e', List.countP_append, List.countP_append, List.countP_cons, if_neg (by have q1 := h1 k.toNat (by omega); have q2 := h2 k.toNat (by omega); rw [decide_eq_true_eq]; omega)]
    omega
include hr h1 h2 in
theorem after_ins : afterE (insM l a r) (ordM (insM l a r)) = putE (afterE l (ordM l)) r a := by
  rw [ord_ins ha hr h1 h2, after_snoc]
  have e : afterE (insM l a r) ((ordM l).map (shM a)) = afterE l (ordM l) := by
    unfold afterE
    have hs : startE (insM l a r) = startE l := by unfold startE; rw [plain_ins hr]
    rw [hs, List.foldl_map]
    have : ∀ (O : List Int) (s : Est), (∀ k ∈ O, 0 ≤ k ∧ k < l.length) → O.foldl (fun x y => stepE (insM l a r) x (shM a y)) s = O.foldl (stepE l) s := by
      intro O
      induction O with
      | nil => intro s _; rfl
      | cons k O ih =>
        intro s hO
        have hk := hO k (by simp)
        rw [List.foldl_cons, List.foldl_cons]
        have : stepE (insM l a r) s (shM a k) = stepE l s k := by
          unfold stepE
          rw [rn_sh ha hk.1, ahead_sh ha h1 h2 hk.1 hk.2]
        rw [this]
        exact ih _ (fun k hk => hO k (by simp [hk]))
    exact this _ _ (fun k hk => by have := ord_mem.1 hk; omega)
  rw [e]
  unfold stepE
  rw [rn_at ha, Int.toNat_natCast, ahead_at ha h1]
end
/-- what holds of who decodes -/
structure DOk (s : Dst) : Prop where
  n0 : 128 ≤ s.n
  i0 : 0 ≤ s.i
  i1 : s.i ≤ s.out.length
  le : ∀ j, j < s.out.length → s.out.getD j 0 ≤ s.n
  eq : ∀ j, j < s.out.length → s.out.getD j 0 = s.n → (j : Int) < s.i
/-- who encodes what was decoded stands where who decodes does -/
structure Meets (s : Dst) (W : List Int) : Prop where
  n : (afterE s.out (ordM s.out)).n = s.n
  i : (afterE s.out (ordM s.out)).i = s.i
  bias : (afterE s.out (ordM s.out)).bias = s.bias
  first : (afterE s.out (ordM s.out)).first = s.first
  out : (afterE s.out (ordM s.out)).out = W
theorem go_bd {s : Dst} (h : DOk s) {d : Int} (hd : 0 ≤ d) : s.n ≤ rD s d ∧ 0 ≤ aD s d ∧ aD s d ≤ s.out.length ∧ (rD s d - s.n) * (s.out.length + 1) + aD s d - s.i = d := by
  obtain ⟨n0, i0, i1, le, eq⟩ := h
  have e1 : 0 ≤ (d + s.i) / ((s.out.length : Int) + 1) := Int.ediv_nonneg (by omega) (by omega)
  have e2 := Int.emod_nonneg (d + s.i) (show ((s.out.length : Int) + 1) ≠ 0 by omega)
  have e3 := Int.emod_lt_of_pos (d + s.i) (show 0 < (s.out.length : Int) + 1 by omega)
  have e4 := Int.emod_add_mul_ediv (d + s.i) ((s.out.length : Int) + 1)
  unfold rD aD
  refine ⟨by omega, e2, by omega, ?_⟩
  rw [show s.n + (d + s.i) / ((s.out.length : Int) + 1) - s.n = (d + s.i) / ((s.out.length : Int) + 1) by omega, Int.mul_comm]
  omega
theorem go_ok {s : Dst} (h : DOk s) {d : Int} (hd : 0 ≤ d) : DOk (goD s d) ∧ (∀ j, j < s.out.length → s.out.getD j 0 ≤ rD s d) ∧ (∀ j, j < s.out.length → s.out.getD j 0 = rD s d → j < (aD s d).toNat) := by
  obtain ⟨g1, g2, g3, g4⟩ := go_bd h hd
  obtain ⟨n0, i0, i1, le, eq⟩ := h
  have k1 : ∀ j, j < s.out.length → s.out.getD j 0 ≤ rD s d := fun j hj => by have := le j hj; omega
  have k2 : ∀ j, j < s.out.length → s.out.getD j 0 = rD s d → j < (aD s d).toNat := fun j hj e => by
    have hl := le j hj
    have hrn : rD s d = s.n := by omega
    have hj2 := eq j hj (by omega)
    rw [hrn, Int.sub_self, Int.zero_mul] at g4
    omega
  refine ⟨⟨by show 128 ≤ rD s d; omega, by show 0 ≤ aD s d + 1; omega, ?_, ?_, ?_⟩, k1, k2⟩
  · show aD s d + 1 ≤ ((insM s.out (aD s d).toNat (rD s d)).length : Int)
    rw [ins_len]; omega
  · intro j hj
    show (insM s.out (aD s d).toNat (rD s d)).getD j 0 ≤ rD s d
    have hj' : j < (insM s.out (aD s d).toNat (rD s d)).length := hj
    rw [ins_len] at hj'
    rw [ins_get _ (by omega)]
    split
    · exact k1 j (by omega)
    · split
      · exact Int.le_refl _
      · exact k1 _ (by omega)
  · intro j hj
    show (insM s.out (aD s d).toNat (rD s d)).getD j 0 = rD s d → (j : Int) < aD s d + 1
    have hj' : j < (insM s.out (aD s d).toNat (rD s d)).length := hj
    rw [ins_len] at hj'
    rw [ins_get _ (by omega)]
    split
    · intro _; omega
    · split
      · intro _; omega
      · intro e
        have := k2 _ (by omega) e
        omega
/-- WHAT WAS DECODED IS ENCODED TO THE SAME -/
theorem there_from : ∀ (f : Nat) (s : Dst) (bs : List Int) (a : Nat) (W out : List Int), bs.length ≤ f → DOk s → Meets s W → (∀ x ∈ s.out, rgtB x = true) → decR f s bs a = .ok out → encM out = W ++ bs.map lowM ∧ (∀ x ∈ out, rgtB x = true) ∧ out.length ≤ s.out.length + bs.length := by
  intro f
  induction f with
  | zero =>
    intro s bs a W out hf hok hm hr h
    obtain rfl : bs = [] := List.eq_nil_of_length_eq_zero (by omega)
    rw [decR_nil] at h
    injection h with h
    subst h
    exact ⟨by rw [encM, hm.out]; simp, hr, by simp⟩
  | succ f ih =>
    intro s bs a W out hf hok hm hr h
    cases bs with
    | nil =>
      rw [decR_nil] at h
      injection h with h
      subst h
      exact ⟨by rw [encM, hm.out]; simp, hr, by simp⟩
    | cons b bs =>
      rw [decR_cons] at h
      cases hrd : rdM s.bias (b :: bs) a 0 0 1 with
      | bad x c => rw [hrd] at h; cases h
      | ok d rest a' =>
        rw [hrd, contM_ok] at h
        obtain ⟨C, d', e1, e2, e3, e4, e5, e6, e7⟩ := rd_ok s.bias (b :: bs) a 0 0 1 d rest a' (by omega) (by omega) hrd
        obtain rfl : d' = d := by omega
        by_cases hg : rgtB (rD s d') = true
        · rw [if_pos hg] at h
          obtain ⟨g1, g2, g3, g4⟩ := go_bd hok e2
          obtain ⟨k0, k1, k2⟩ := go_ok hok e2
          have hai : (aD s d').toNat ≤ s.out.length := by omega
          have haft := after_ins hai (by have := hok.n0; omega : 128 ≤ rD s d') k1 k2
          have hmm : (afterE s.out (ordM s.out)).m = s.out.length := by rw [after_m, ← Int.natCast_add, ord_len]
          have hnum : numE (afterE s.out (ordM s.out)) (rD s d') ((aD s d').toNat : Int) = d' := by
            unfold numE
            rw [hm.n, hm.i, hmm, Int.toNat_of_nonneg g2]
            exact g4
          have hm' : Meets (goD s d') (W ++ C.map lowM) := by
            have hdg : C.map lowM = digM d' s.bias := e7 d'.toNat (Nat.le_refl _)
            have e : (goD s d').out = insM s.out (aD s d').toNat (rD s d') := rfl
            refine ⟨?_, ?_, ?_, ?_, ?_⟩
            · rw [e, haft]; rfl
            · rw [e, haft]
              show ((aD s d').toNat : Int) + 1 = aD s d' + 1
              omega
            · rw [e, haft]
              show biasM (numE (afterE s.out (ordM s.out)) (rD s d') ((aD s d').toNat : Int)) ((afterE s.out (ordM s.out)).m + 1) (afterE s.out (ordM s.out)).first = biasM d' (s.out.length + 1) s.first
              rw [hnum, hmm, hm.first]
            · rw [e, haft]; rfl
            · rw [e, haft]
              show (afterE s.out (ordM s.out)).out ++ digM (numE (afterE s.out (ordM s.out)) (rD s d') ((aD s d').toNat : Int)) (afterE s.out (ordM s.out)).bias = _
              rw [hnum, hm.out, hm.bias, hdg]
          have hr' : ∀ x ∈ (goD s d').out, rgtB x = true := by
            intro x hx
            have hx' : x ∈ s.out.take (aD s d').toNat ++ rD s d' :: s.out.drop (aD s d').toNat := hx
            rcases List.mem_append.1 hx' with e | e
            · exact hr x (List.mem_of_mem_take e)
            · rcases List.mem_cons.1 e with e | e
              · rw [e]; exact hg
              · exact hr x (List.mem_of_mem_drop e)
          have hlb : C.length + rest.length = (b :: bs).length := by rw [e1]; simp
          obtain ⟨r1, r2, r3⟩ := ih (goD s d') rest a' (W ++ C.map lowM) out (by simp at hf hlb; omega) k0 hm' hr' h
          refine ⟨by rw [r1, e1]; simp, r2, ?_⟩
          have : (goD s d').out.length = s.out.length + 1 := ins_len _ _ _
          omega
        · rw [if_neg hg] at h; cases h
/-- a text with its digits in small letters -/
def lowerM (bs : List Int) (f : Nat) : List Int := bs.take f ++ (bs.drop f).map lowM
theorem there_is {bs : List Int} {f : Nat} (hf : IsFrom bs f) (hb : ∀ b ∈ bs, 0 ≤ b ∧ b ≤ 127) (out : List Int) (h : decM bs f = .ok out) : encM out = lowerM bs f ∧ (∀ x ∈ out, rgtB x = true) ∧ out.length ≤ bs.length := by
  obtain ⟨f1, f2, f3⟩ := hf
  have hp : ∀ x ∈ bs.take (f - 1), 0 ≤ x ∧ x ≤ 127 := fun x hx => hb x (List.mem_of_mem_take hx)
  have hgd : ∀ j, j < (bs.take (f - 1)).length → (bs.take (f - 1)).getD j 0 ≤ 127 := fun j hj => (hp _ (getD_mem hj)).2
  have hpl : plainM (bs.take (f - 1)) = bs.take (f - 1) := List.filter_eq_self.2 (fun x hx => by have := hp x hx; simp; omega)
  have hord : ordM (bs.take (f - 1)) = [] := by
    cases ho : ordM (bs.take (f - 1)) with
    | nil => rfl
    | cons k O =>
      have hk := (ord_mem (l := bs.take (f - 1)) (k := k)).1 (by rw [ho]; simp)
      have := hgd k.toNat (by omega)
      unfold rn at hk
      omega
  have hok : DOk ⟨128, 0, 72, true, bs.take (f - 1)⟩ := ⟨by show (128 : Int) ≤ 128; omega, by show (0 : Int) ≤ 0; omega, by show (0 : Int) ≤ _; omega, fun j hj => by have := hgd j hj; show (bs.take (f - 1)).getD j 0 ≤ 128; omega, fun j hj e => by have := hgd j hj; have e' : (bs.take (f - 1)).getD j 0 = 128 := e; omega⟩
  have hm : Meets ⟨128, 0, 72, true, bs.take (f - 1)⟩ (bs.take f) := by
    refine ⟨by rw [hord]; rfl, by rw [hord]; rfl, by rw [hord]; rfl, by rw [hord]; rfl, ?_⟩
    rw [hord]
    show (if (plainM (bs.take (f - 1))).length = 0 then plainM (bs.take (f - 1)) else plainM (bs.take (f - 1)) ++ [45]) = _
    rw [hpl]
    rcases f2 with rfl | ⟨f2, f4⟩
    · simp
    · rw [if_neg (by rw [List.length_take]; omega)]
      obtain ⟨g, rfl⟩ : ∃ g, f = g + 1 := ⟨f - 1, by omega⟩
      rw [Nat.add_sub_cancel] at f4 ⊢
      rw [List.take_succ_eq_append_getElem (by omega)]
      rw [List.getD_eq_getElem?_getD, List.getElem?_eq_getElem (by omega)] at f4
      simp at f4
      rw [f4]
  obtain ⟨r1, r2, r3⟩ := there_from bs.length _ (bs.drop f) f (bs.take f) out (by simp) hok hm (fun x hx => by have := hp x hx; simp [rgtB]; omega) h
  refine ⟨r1, r2, ?_⟩
  have e1 : (bs.take (f - 1)).length + (bs.drop f).length ≤ bs.length := by simp; omega
  have e2 : out.length ≤ (bs.take (f - 1)).length + (bs.drop f).length := r3
  omega
end Go.Proofs.YtockmkcoehepiaaDoor

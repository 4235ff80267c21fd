/-
  What is proved here: a table's text is parsed to that table; what is parsed is the text of what is told (plain mathematics, no program).
-/
import Derived.Test.YtlnehhfljjeifaaGreatDoorX1
namespace Go.Proofs.YtlnehhfljjeifaaGreatDoor

theorem not_hex {c : UInt8} (h : c ∉ hexD) {n : Nat} : c ∉ hexT n := fun h2 => h (hexT_mem h2)
theorem hexT_len (n : Nat) : 4 ≤ (hexT n).length := by unfold hexT; simp; omega
theorem readLine_text {r : Rg} (h : r.may = true) : readLine (lineT r) = some r := by
  obtain ⟨h1, h2, h3, h4, h5⟩ := (r.may_iff).1 h
  have hlo : numb hexD 4 6 (hexT r.lo.toNat) = some r.lo.toNat := numb_hex (by omega)
  have hhi : numb hexD 4 6 (hexT r.hi.toNat) = some r.hi.toNat := numb_hex (by omega)
  have hva : numb decD 1 7 (decT r.val.toNat) = some r.val.toNat := numb_dec (by omega)
  have n32 : (32 : UInt8) ∉ hexD := by decide
  have n46 : (46 : UInt8) ∉ hexD := by decide
  by_cases he : r.hi = r.lo
  · have hl : lineT r = hexT r.lo.toNat ++ 32 :: decT r.val.toNat := by unfold lineT; rw [if_pos he]; simp
    have hc : Lib.cut (lineT r) [32] = (hexT r.lo.toNat, decT r.val.toNat, true) := by rw [hl]; exact cut_at _ _ _ (not_hex n32)
    have hone : lineOne (lineT r) = (r, true) := by
      unfold lineOne
      rw [hc]
      simp only [hlo, hva]
      obtain ⟨lo, hi, v⟩ := r
      simp at he h1 h4 ⊢
      omega
    unfold readLine
    rw [hone]; rfl
  · have hl : lineT r = (hexT r.lo.toNat ++ 46 :: 46 :: hexT r.hi.toNat) ++ 32 :: decT r.val.toNat := by unfold lineT; rw [if_neg he]; simp
    have hn : (32 : UInt8) ∉ hexT r.lo.toNat ++ 46 :: 46 :: hexT r.hi.toNat := by
      intro hm
      rcases List.mem_append.1 hm with hm | hm
      · exact not_hex n32 hm
      · rcases List.mem_cons.1 hm with hm | hm
        · exact absurd hm (by decide)
        · rcases List.mem_cons.1 hm with hm | hm
          · exact absurd hm (by decide)
          · exact not_hex n32 hm
    have hc : Lib.cut (lineT r) [32] = (hexT r.lo.toNat ++ 46 :: 46 :: hexT r.hi.toNat, decT r.val.toNat, true) := by rw [hl]; exact cut_at _ _ _ hn
    have hc2 : Lib.cut (hexT r.lo.toNat ++ 46 :: 46 :: hexT r.hi.toNat) [46, 46] = (hexT r.lo.toNat, hexT r.hi.toNat, true) := cut_at2 _ _ _ (not_hex n46)
    have hnone : numb hexD 4 6 (hexT r.lo.toNat ++ 46 :: 46 :: hexT r.hi.toNat) = none := by
      unfold numb
      rw [if_pos]
      refine .inr (.inl ?_)
      have := hexT_len r.lo.toNat
      have := hexT_len r.hi.toNat
      simp; omega
    have hone : (lineOne (lineT r)).2 = false := by unfold lineOne; rw [hc]; simp [hnone]
    have htwo : lineTwo (lineT r) = (r, true) := by
      unfold lineTwo
      rw [hc]
      simp only [hc2, hlo, hhi, hva]
      obtain ⟨lo, hi, v⟩ := r
      simp at he h1 h2 h4 ⊢
      omega
    unfold readLine
    rw [hone, htwo]; rfl
theorem lineT_no10 (r : Rg) : (10 : UInt8) ∉ lineT r := fun h => by
  rcases lineT_mem h with h | h | h
  · exact absurd h (by decide)
  · exact absurd h (by decide)
  · exact absurd h (by decide)
theorem parseL_text : ∀ (l : List Rg) (f k : Nat) (acc : List Rg), (∀ r ∈ l, r.may = true) → (textT l).length < f → parseL f (textT l) k acc = (acc ++ l, 0, 0) := by
  intro l
  induction l with
  | nil =>
    intro f k acc _ hf
    obtain ⟨f, rfl⟩ : ∃ f', f = f' + 1 := ⟨f - 1, by omega⟩
    simp [textT, parseL]
  | cons r l ih =>
    intro f k acc hm hf
    obtain ⟨f, rfl⟩ : ∃ f', f = f' + 1 := ⟨f - 1, by omega⟩
    have e : textT (r :: l) = lineT r ++ 10 :: textT l := by simp [textT]
    have hc : Lib.cut (textT (r :: l)) [10] = (lineT r, textT l, true) := by rw [e]; exact cut_at _ _ _ (lineT_no10 r)
    have hlen : (textT l).length < f := by rw [e] at hf; simp at hf; omega
    rw [parseL, if_neg (by rw [e]; simp), hc]
    simp only [readLine_text (hm r (by simp))]
    rw [if_neg (by simp)]
    show parseL f (textT l) (k + 1) (acc ++ [r]) = _
    rw [ih f (k + 1) (acc ++ [r]) (fun q hq => hm q (by simp [hq])) hlen]
    simp
/-- A TABLE's TEXT IS PARSED TO THAT TABLE. -/
theorem parse_text {l : List Rg} (hm : ∀ r ∈ l, r.may = true) (hc : (chk l).2 = 0) : parseM (textT l) = (l, 0, 0) := by
  have h := parseL_text l ((textT l).length + 1) 0 [] hm (by omega)
  unfold parseM
  rw [h]
  simp [hc]
theorem readLine_back {x : List UInt8} {r : Rg} (h : readLine x = some r) : x = lineT r ∧ 0 ≤ r.lo ∧ 0 ≤ r.hi ∧ 0 ≤ r.val := by
  unfold readLine at h
  split at h
  · rename_i h1
    have hr : (lineOne x).1 = r := by simpa using h
    obtain ⟨a, b, t, hc⟩ : ∃ a b t, Lib.cut x [32] = (a, b, t) := ⟨_, _, _, rfl⟩
    unfold lineOne at h1 hr
    rw [hc] at h1 hr
    simp only [Bool.and_eq_true] at h1 hr
    obtain ⟨n, hn⟩ := Option.isSome_iff_exists.1 h1.1
    obtain ⟨m, hm⟩ := Option.isSome_iff_exists.1 h1.2
    rw [hn, hm] at hr
    obtain ⟨e1, -⟩ := hex_numb hn
    obtain ⟨e2, -⟩ := dec_numb hm
    rw [← hr]
    rcases cut_back x [32] a b t hc with ⟨rfl, hx⟩ | ⟨rfl, -, hy⟩
    · refine ⟨?_, by simp, by simp, by simp⟩
      rw [hx, e1, e2]
      unfold lineT
      simp
    · subst hy
      simp [numb] at hm
  · split at h
    · rename_i h1
      have hr : (lineTwo x).1 = r := by simpa using h
      obtain ⟨a, b, t, hc⟩ : ∃ a b t, Lib.cut x [32] = (a, b, t) := ⟨_, _, _, rfl⟩
      obtain ⟨a1, a2, t2, hc2⟩ : ∃ a1 a2 t2, Lib.cut a [46, 46] = (a1, a2, t2) := ⟨_, _, _, rfl⟩
      unfold lineTwo at h1 hr
      rw [hc] at h1 hr
      simp only [hc2] at h1 hr
      simp only [Bool.and_eq_true, decide_eq_true_eq] at h1
      obtain ⟨⟨⟨p1, p2⟩, p3⟩, p4⟩ := h1
      obtain ⟨n, hn⟩ := Option.isSome_iff_exists.1 p1
      obtain ⟨q, hq⟩ := Option.isSome_iff_exists.1 p2
      obtain ⟨m, hm⟩ := Option.isSome_iff_exists.1 p3
      rw [hn, hq, hm] at hr
      rw [hn, hq] at p4
      obtain ⟨e1, -⟩ := hex_numb hn
      obtain ⟨e2, -⟩ := hex_numb hq
      obtain ⟨e3, -⟩ := dec_numb hm
      rw [← hr]
      rcases cut_back x [32] a b t hc with ⟨rfl, hx⟩ | ⟨rfl, -, hy⟩
      · rcases cut_back a [46, 46] a1 a2 t2 hc2 with ⟨rfl, hx2⟩ | ⟨rfl, -, hy2⟩
        · refine ⟨?_, by simp, by simp, by simp⟩
          rw [hx, hx2, e1, e2, e3]
          unfold lineT
          rw [if_neg (by simp at p4 ⊢; omega)]
          simp
        · subst hy2
          simp [numb] at hq
      · subst hy
        simp [numb] at hm
    · cases h
theorem parseL_back : ∀ (f : Nat) (s : List UInt8) (k : Nat) (acc l : List Rg), s.length < f → parseL f s k acc = (l, 0, 0) → ∃ t, l = acc ++ t ∧ s = textT t ∧ ∀ r ∈ t, 0 ≤ r.lo ∧ 0 ≤ r.hi ∧ 0 ≤ r.val := by
  intro f
  induction f with
  | zero => intro s k acc l h; omega
  | succ f ih =>
    intro s k acc l hf h
    rw [parseL] at h
    split at h
    · rename_i h0
      subst h0
      refine ⟨[], by simp at h; simp [h], rfl, by simp⟩
    · obtain ⟨a, b, t, hc⟩ : ∃ a b t, Lib.cut s [10] = (a, b, t) := ⟨_, _, _, rfl⟩
      rw [hc] at h
      simp only [] at h
      split at h
      · simp at h
      · rename_i h2
        split at h
        · simp at h
        · rename_i r hr
          obtain ⟨e1, p1, p2, p3⟩ := readLine_back hr
          rcases cut_back s [10] a b t hc with ⟨rfl, hx⟩ | ⟨rfl, -, -⟩
          · obtain ⟨t', e3, e4, e5⟩ := ih b (k + 1) (acc ++ [r]) l (by rw [hx] at hf; simp at hf; omega) h
            refine ⟨r :: t', by rw [e3]; simp, ?_, ?_⟩
            · rw [hx, e1, e4]; simp [textT]
            · intro q hq
              rcases List.mem_cons.1 hq with rfl | hq
              · exact ⟨p1, p2, p3⟩
              · exact e5 q hq
          · simp at h2
/-- WHAT IS PARSED IS THE TEXT OF WHAT IS TOLD. -/
theorem parse_back {s : List UInt8} {l : List Rg} (h : parseM s = (l, 0, 0)) : s = textT l ∧ (chk l).2 = 0 := by
  unfold parseM at h
  obtain ⟨x, k, c, hx⟩ : ∃ x k c, parseL (s.length + 1) s 0 [] = (x, k, c) := ⟨_, _, _, rfl⟩
  rw [hx] at h
  simp only [] at h
  split at h
  · rename_i hc
    split at h
    · rename_i hk
      obtain rfl : x = l := by simpa using h
      subst hc
      have hk0 : k = 0 := by
        have key : ∀ f s k acc, (parseL f s k acc).2.2 = 0 → (parseL f s k acc).2.1 = 0 := by
          intro f
          induction f with
          | zero => intro s k acc _; rfl
          | succ f ih =>
            intro s k acc h
            rw [parseL] at h ⊢
            split
            · rfl
            · rename_i hs
              rw [if_neg hs] at h
              split
              · rename_i hb; rw [if_pos hb] at h; simp at h
              · rename_i hb
                rw [if_neg hb] at h
                split
                · rename_i hr; rw [hr] at h; simp at h
                · rename_i r hr
                  rw [hr] at h
                  exact ih _ _ _ h
        have := key (s.length + 1) s 0 [] (by rw [hx])
        rw [hx] at this; exact this
      subst hk0
      obtain ⟨t, e1, e2, -⟩ := parseL_back (s.length + 1) s 0 [] x (by omega) hx
      simp at e1
      subst e1
      exact ⟨e2, hk⟩
    · rename_i hk
      have := congrArg (fun y => y.2.2) h
      simp at this
      exact absurd this hk
  · rename_i hc
    have := congrArg (fun y => y.2.2) h
    simp at this
    exact absurd this hc
end Go.Proofs.YtlnehhfljjeifaaGreatDoor

/-
  What is proved here: that RangesChecks answers true at all ranges.
-/
import Derived.Test.YthheplgpjhhbmaaDoorC2
import Derived.Test.YthheplgpjhhbmaaDoorI3
namespace Go.Proofs.YthheplgpjhhbmaaDoor
open Go.RowKit

theorem build_gen (v : Value) (l : List Rg) (w : World) (p : Nat → Addr) (hg : Gl p w) (hgb : Gb p w) (hT : Tab w v l) (hl : l.length ≤ 2147483648) :
    Calls Tryd.prog 10 #[v] w fun e w' => ∃ rv fv, e = .returned (.tuple #[rv, fv]) ∧ Tab w' rv (buildM l).1 ∧ Says w' fv w.heap.size p (buildM l).2 ∧ Below w.heap.size w w' :=
  build_any _ insert_any v l w p hg hgb hT hl (fun _ _ => True) trivial (fun _ _ _ _ _ _ _ _ => ⟨trivial, trivial⟩)
theorem Says.below {w w' : World} {v : Value} {B : Nat} {p : Nat → Addr} {x : Nat × Nat} (h : Says w v B p x) (hb : Below w.heap.size w w') : Says w' v B p x := by
  rcases h with h | ⟨h1, h2⟩
  · exact .inl h
  · exact .inr ⟨h1, h2.below hb⟩
theorem says_code {w : World} {v : Value} {B : Nat} {p : Nat → Addr} {x : Nat × Nat} (_h : Says w v B p x) (hc : x.2 = 0 ∨ x.2 = 4 ∨ x.2 = 6 ∨ x.2 = 7 ∨ x.2 = 18) : x.2 = 0 ∨ Code x.2 := by
  unfold Code; omega
theorem buildL_code : ∀ (rest t : List Rg) (k : Nat), (buildL rest t k).2.2 = 0 ∨ (buildL rest t k).2.2 = 7 := by
  intro rest
  induction rest with
  | nil => intro t k; exact .inl rfl
  | cons r rest ih =>
    intro t k
    unfold buildL
    split
    · exact .inr rfl
    · exact ih _ _
theorem buildL_len : ∀ (rest t : List Rg) (k : Nat), (buildL rest t k).1.length ≤ rest.length + t.length := by
  intro rest
  induction rest with
  | nil => intro t k; simp [buildL]
  | cons r rest ih =>
    intro t k
    unfold buildL
    split
    · simp
    · have := ih (insAt t (reachN t r.lo) r) (k + 1)
      rw [insAt_len _ _ _ (reachN_spec _ _).1] at this
      simp; omega
theorem buildM_len (l : List Rg) : (buildM l).1.length ≤ l.length := by
  unfold buildM
  split
  · simp
  · exact buildL_len l [] 0
theorem faultsM_code (l : List Rg) (x : Nat × Nat) (h : x ∈ faultsM l) : x.2 = 4 ∨ x.2 = 6 ∨ x.2 = 18 := by
  unfold faultsM at h
  split at h
  · simp at h; subst h; simp
  · have := (faultsTo_mem l _ x h).2.2; omega
theorem buildM_code (l : List Rg) : (buildM l).2.2 = 0 ∨ (buildM l).2.2 = 4 ∨ (buildM l).2.2 = 6 ∨ (buildM l).2.2 = 7 ∨ (buildM l).2.2 = 18 := by
  unfold buildM
  split
  · rename_i x hx
    have := faultsM_code l x (List.mem_of_find?_eq_some hx)
    simp; omega
  · have := buildL_code l [] 0; omega
/-- what Is answers of what was said -/
theorem is_says {v : Value} {B : Nat} {x : Nat × Nat} {w : World} {p : Nat → Addr} (hg : Gl p w) (hc : x.2 = 0 ∨ x.2 = 4 ∨ x.2 = 6 ∨ x.2 = 7 ∨ x.2 = 18) (h : Says w v B p x) :
    Calls Tryd.prog 12 #[v, .int .i64 x.1, .int .i64 x.2] w fun e w' => e = .returned (.bool true) ∧ Below w.heap.size w w' := by
  rcases h with ⟨rfl, rfl⟩ | ⟨h1, h2⟩
  · refine (lawIs_none 0 w).mono ?_
    rintro e w' ⟨rfl, rfl⟩
    exact ⟨rfl, Below.refl _ _⟩
  · exact lawIs_fault v B x.1 x.2 w p hg (by unfold Code; omega) h2
theorem refBuild_gen (v : Value) (l : List Rg) (w : World) (hT : Tab w v l) (hl : l.length ≤ 60) :
    Calls Tryd.prog 11 #[v] w fun e w' => ∃ rv, e = .returned (.tuple #[rv, .int .i64 (buildM l).2.1, .int .i64 (buildM l).2.2]) ∧ Tab w' rv (buildM l).1 ∧ Below w.heap.size w w' := by
  obtain ⟨a, cap, rfl, hc⟩ := id hT
  cases l with
  | nil =>
    refine (refBuild_nil a cap w).mono ?_
    rintro e w' ⟨rfl, rfl⟩
    exact ⟨_, rfl, Tab.nil _ _ _, Below.refl _ _⟩
  | cons r t =>
    obtain ⟨b, off, rfl, -⟩ := hc 0 (by simp)
    exact refBuild_any b off cap (r :: t) w hT hl
set_option maxRecDepth 20000 in
set_option maxHeartbeats 2000000 in
theorem checks_any (w : World) (p : Nat → Addr) (hg : Gl p w ∧ Gb p w) (hm : Ml w) (v : Value) (l : List Rg) (hT : Tab w v l) (hl : l.length ≤ maxLen) :
    Calls Tryd.prog 3 #[v] w fun e w' => e = .returned (.bool true) ∧ Below w.heap.size w w' := by
  obtain ⟨hg, hgb⟩ := hg
  have HA := Hid.mk' (awake3_any w p hg hm)
  unfold maxLen at hl
  by_cases hbig : 60 < l.length
  · obtain ⟨a, cap, rfl, -⟩ := hT
    clear hg hgb hm
    go_enter Tryd.func3, Tryd.ntmps3
    go_wp2_with fail
    refine HA.out.mono ?_
    rintro e w1 ⟨rfl, hb1⟩
    go_wp2
    go_ret
    exact ⟨rfl, hb1⟩
  have hl2 : l.length ≤ 2147483648 := by omega
  have HR : Hid (∀ W, Below w.heap.size w W → _) := fun W hb => refCheck_any v l W (hT.below hb) hl2
  have HB : Hid (∀ W, Below w.heap.size w W → _) := fun W hb => build_gen v l W p (hg.below hb) (hgb.below hb) (hT.below hb) hl2
  have HF : Hid (∀ W, Below w.heap.size w W → _) := fun W hb => refBuild_gen v l W (hT.below hb) (by omega)
  have HC : Hid (∀ W, Below w.heap.size w W → _) := fun W hb => check_any v l W p (hg.below hb) (hT.below hb) hl2
  have hcc := chk_code l
  have hbc := buildM_code l
  have hbl0 := buildM_len l
  have HI : Hid (∀ W fv B x, Below w.heap.size w W → (x.2 = 0 ∨ x.2 = 4 ∨ x.2 = 6 ∨ x.2 = 7 ∨ x.2 = 18) → Says W fv B p x → _) := fun W fv B x hb hc h => is_says (hg.below hb) hc h
  have HS : Hid (∀ W v1 v2 (t : List Rg), t.length ≤ 2147483648 → Tab W v1 t → Tab W v2 t → _) := fun W v1 v2 t ht h1 h2 => same_any v1 v2 t W h1 h2 ht
  obtain ⟨a, cap, rfl, -⟩ := hT
  generalize chk l = cx at *
  generalize buildM l = bm at *
  obtain ⟨c1, c2⟩ := cx
  obtain ⟨bl, b1, b2⟩ := bm
  simp only [] at HR HB HF HC hcc hbc
  have HHc := Hid.mk' hcc
  have HHb := Hid.mk' hbc
  clear hg hgb hm hcc hbc
  go_enter Tryd.func3, Tryd.ntmps3
  go_wp2_with fail
  refine HA.out.mono ?_
  rintro e w1 ⟨rfl, hb1⟩
  go_wp2_with fail
  refine (HR.out w1 hb1).mono ?_
  rintro e w2 ⟨rfl, hb2⟩
  have hbw2 := hb1.trans (hb2.mono hb1.size)
  go_wp2_with fail
  refine (HB.out w2 hbw2).mono ?_
  rintro e w3 ⟨rv, fv, rfl, ht3, hs3, hb3⟩
  have hbw3 := hbw2.trans (hb3.mono hbw2.size)
  have HT3 := Hid.mk' ht3
  have HS3 := Hid.mk' hs3
  have hbl : bl.length ≤ 2147483648 := by have h9 : bl.length ≤ l.length := hbl0; omega
  obtain ⟨ra, rc, rfl, -⟩ := ht3
  have hfv : fv = .nilIface ∨ ∃ fb, fv = .iface 55 (.pointer (some fb)) := by
    rcases hs3 with ⟨-, h⟩ | ⟨-, fb, -, h, -, -⟩
    · exact .inl h
    · exact .inr ⟨_, h⟩
  clear hs3
  rcases hfv with rfl | ⟨fb, rfl⟩
  all_goals
    go_wp2_with fail
    refine (HF.out w3 hbw3).mono ?_
    rintro e w4 ⟨rv4, rfl, ht4, hb4⟩
    have hbw4 := hbw3.trans (hb4.mono hbw3.size)
    have HT4 := Hid.mk' ht4
    obtain ⟨sa, sc, rfl, -⟩ := ht4
    go_wp2_with fail
    refine (HC.out w4 hbw4).mono ?_
    rintro e w5 ⟨fv5, rfl, hs5, hb5⟩
    have hbw5 := hbw4.trans (hb5.mono hbw4.size)
    have HI5 := Hid.mk' (HI.out w5 fv5 _ (c1, c2) hbw5 (by have := HHc.out; simp only []; omega) hs5)
    have hfv5 : fv5 = .nilIface ∨ ∃ fb, fv5 = .iface 55 (.pointer (some fb)) := by
      rcases hs5 with ⟨-, h⟩ | ⟨-, fb, -, h, -, -⟩
      · exact .inl h
      · exact .inr ⟨_, h⟩
    clear hs5
    simp only [] at HI5
    rcases hfv5 with rfl | ⟨fb5, rfl⟩
    all_goals
      go_wp2_with fail
      refine HI5.out.mono ?_
      rintro e w6 ⟨rfl, hb6⟩
      have hbw6 := hbw5.trans (hb6.mono hbw5.size)
      have hb36 : Below w3.heap.size w3 w6 := (hb4.trans (hb5.mono hb4.size)).trans (hb6.mono (Nat.le_trans hb4.size hb5.size))
      have HI6 := Hid.mk' (HI.out w6 _ _ (b1, b2) hbw6 (by have := HHb.out; simp only []; omega) (HS3.out.below hb36))
      simp only [] at HI6
      go_wp2_with fail
      refine HI6.out.mono ?_
      rintro e w7 ⟨rfl, hb7⟩
      have hbw7 := hbw6.trans (hb7.mono hbw6.size)
      have hb37 : Below w3.heap.size w3 w7 := hb36.trans (hb7.mono hb36.size)
      have hb47 : Below w4.heap.size w4 w7 := (hb5.trans (hb6.mono hb5.size)).trans (hb7.mono (Nat.le_trans hb5.size hb6.size))
      have HS7 := Hid.mk' (HS.out w7 _ _ bl hbl (HT3.out.below hb37) (HT4.out.below hb47))
      go_wp2_with fail
      refine HS7.out.mono ?_
      rintro e w8 ⟨rfl, hb8⟩
      go_wp2
      go_ret
      exact ⟨rfl, hbw7.trans (hb8.mono hbw7.size)⟩
end Go.Proofs.YthheplgpjhhbmaaDoor

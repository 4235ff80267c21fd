/-
  What is proved here: what jsonval.appendQuoted and Quote answer.
-/
import Derived.Test.YtjjoedkigjekcaaGreatDoorK1
import Derived.Test.YtjjoedkigjekcaaGreatDoorJB
namespace Go.Proofs.YtjjoedkigjekcaaGreatDoor
open Go.RowKit

theorem str_at (s : List UInt8) (j : Nat) (c : UInt8) (h : s[j]? = some c) (hj : j < (strL s).size) : (strL s)[j]'hj = c := by
  have h2 : (strL s).data.toList[j]? = some ((strL s)[j]'hj) := by
    rw [List.getElem?_eq_getElem (by simpa using hj)]; rfl
  rw [strL_toList, h] at h2
  exact (Option.some.inj h2).symm
theorem quotes_at {s : List UInt8} {j : Nat} {c : UInt8} (h : s[j]? = some c) : (s.take (j + 1)).flatMap quoteB = (s.take j).flatMap quoteB ++ quoteB c := by
  rw [List.take_add_one, h]
  simp
theorem quotes_take (s : List UInt8) (j : Nat) : ((s.take j).flatMap quoteB).length ≤ 6 * s.length := by
  have := quotes_len (s.take j)
  have : (s.take j).length ≤ s.length := by rw [List.length_take]; omega
  omega
set_option maxRecDepth 20000 in
set_option maxHeartbeats 4000000 in
theorem appendQuoted_any (s : List UInt8) (v : Value) (B : Nat) (bs : List UInt8) (w : World) (hown : BR B w v bs) (hB : B ≤ w.heap.size) (hs : s.length ≤ 4000) (hn : bs.length ≤ 1000000000) :
    Calls Tryz.prog 38 #[v, .string (strL s)] w fun e w' => ∃ v', e = .returned v' ∧ BR B w' v' (bs ++ quoteM s) ∧ Goes w v w' v' := by
  have HO := Hid.mk' (hown.alloc (.cells (bytesV [34]).toArray 5))
  have HN := Hid.mk' (bytesNew w [34] 5)
  have HG := Hid.mk' ((Goes.refl w v).alloc (.cells (bytesV [34]).toArray 5))
  have hss : (strL s).size = s.length := rfl
  have HAT : Hid (∀ j, j < s.length → ∃ c, s[j]? = some c ∧ ∀ h, (strL s)[j]'h = c) := fun j hj => ⟨_, List.getElem?_eq_getElem hj, fun h => str_at s j _ (List.getElem?_eq_getElem hj) h⟩
  have HQL := Hid.mk' (quotes_take s)
  generalize strL s = S at *
  clear hown
  go_enter Tryz.func38, Tryz.ntmps38
  go_wp2_with (first | (at_builtin; refine wpList_bytes _ rfl _ _ rfl B _ bs [34] rfl HO.out ⟨w.heap.size, 0, none⟩ 1 1 rfl rfl HN.out (by omega) (by simp; omega) ?_; intro v1 w2 hown1 hgo1; have HO1 := Hid.mk' hown1; have HG1 := Hid.mk' (HG.out.trans hgo1); clear hown1 hgo1))
  have hB2 : B ≤ w2.heap.size := by have := HG1.out.g.size; omega
  go_loopw [0, 11] (fun x0 x11 wr => ∃ (j : Nat), x11 = .int .i64 j ∧ j ≤ s.length ∧ B ≤ wr.heap.size ∧ Hid (BR B wr x0 (bs ++ 34 :: (s.take j).flatMap quoteB)) ∧ Hid (Goes w v wr x0)) (fun _ x11 _ => s.length - (intOf x11).toNat)
  case atStart => exact ⟨0, rfl, Nat.zero_le _, hB2, HO1, HG1⟩
  case round =>
    clear HO1 HG1 hB2 HO HN HG
    obtain ⟨j, rfl, hj, hBr, HO, HG⟩ := hrel
    by_cases hlt : j < s.length
    · obtain ⟨c, hc, hi⟩ := HAT.out j hlt
      have hjs : j < S.size := by omega
      have hi2 := hi hjs
      have hql := HQL.out j
      have HE := Hid.mk' (appendEscaped_any c _ B _ _ HO.out hBr (by simp only [List.length_append, List.length_cons]; omega))
      have HX : Hid (∀ a b : List UInt8, (bs ++ 34 :: (s.take j).flatMap quoteB) ++ quoteB c = bs ++ 34 :: (s.take (j + 1)).flatMap quoteB) := fun _ _ => by rw [quotes_at hc]; simp
      clear hi hc HO
      go_wp2_with fail
      refine HE.out.mono ?_
      rintro e w3 ⟨v2, rfl, hown2, hgo2⟩
      have hO2 : BR B w3 v2 (bs ++ 34 :: (s.take (j + 1)).flatMap quoteB) := by rw [← HX.out [] []]; exact hown2
      have HO2 := Hid.mk' hO2
      have HG2 := Hid.mk' (HG.out.trans hgo2)
      have hB3 : B ≤ w3.heap.size := by have := hgo2.g.size; omega
      clear hown2 hgo2 hO2 HE HX HG
      go_wp2
      go_roundw
      case rel => exact ⟨j + 1, by go_num, by omega, hB3, HO2, HG2⟩
      case measure => simp [intOf]; omega
    · have hO : BR B wr u0 (bs ++ 34 :: s.flatMap quoteB) := by have := HO.out; rwa [List.take_of_length_le (by omega)] at this
      have HO3 := Hid.mk' (hO.alloc (.cells (bytesV [34]).toArray 5))
      have HN := Hid.mk' (bytesNew wr [34] 5)
      have hql := HQL.out s.length
      rw [List.take_length] at hql
      have hl : (bs ++ 34 :: s.flatMap quoteB).length + 1 ≤ 2147483648 := by simp only [List.length_append, List.length_cons]; omega
      clear HO hO hql
      go_wp2_with (first | (at_builtin; refine wpList_bytes _ rfl _ _ rfl B _ (bs ++ 34 :: s.flatMap quoteB) [34] rfl HO3.out ⟨wr.heap.size, 0, none⟩ 1 1 rfl rfl HN.out hl (by simp; omega) ?_; intro v3 w4 hown3 hgo3; have HO4 := Hid.mk' hown3; have HG4 := Hid.mk' ((HG.out.alloc _).trans hgo3); clear hown3 hgo3))
      go_ret
      refine ⟨_, rfl, ?_, HG4.out⟩
      have e : bs ++ quoteM s = (bs ++ 34 :: s.flatMap quoteB) ++ [34] := by unfold quoteM; simp
      rw [e]
      exact HO4.out
set_option maxRecDepth 20000 in
set_option maxHeartbeats 1000000 in
theorem quote12_any (s : List UInt8) (w : World) (hs : s.length ≤ 4000) :
    Calls Tryz.prog 18 #[.string (strL s)] w fun e w' => e = .returned (.string (strL (quoteM s))) ∧ Below w.heap.size w w' := by
  have HQ := Hid.mk' (appendQuoted_any s (.slice none 0 0) w.heap.size [] w (BR.nil _ _) (Nat.le_refl _) hs (by simp))
  generalize strL s = S at *
  go_enter Tryz.func18, Tryz.ntmps18
  go_wp2_with fail
  refine HQ.out.mono ?_
  rintro e w1 ⟨v1, rfl, hown, hgo⟩
  have hconv := hown.conv
  have hfin := hgo.below (Nat.le_refl _) (fun k hk => by simp [Value.ownBlock] at hk)
  rw [List.nil_append] at hconv
  clear HQ hown hgo
  go_wp2
  go_ret
  exact ⟨rfl, hfin⟩
end Go.Proofs.YtjjoedkigjekcaaGreatDoor

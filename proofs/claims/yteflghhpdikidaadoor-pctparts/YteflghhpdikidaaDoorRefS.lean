/-
  What is proved here: what the reference's Split (layer 2) answers at every text of at most 1000 bytes; what the laws' SameTexts answers.
-/
import Derived.Test.YteflghhpdikidaaDoorSplit2
namespace Go.Proofs.YteflghhpdikidaaDoor
open Go.RowKit

/-- the parts of what is left, with what stands ahead in the first -/
def Pct.cutP (b : UInt8) (pre l : List UInt8) : List (List UInt8) := (pre ++ (Pct.cut b l).headD []) :: (Pct.cut b l).tail
theorem Pct.cutP_nil (b : UInt8) (l : List UInt8) : Pct.cutP b [] l = Pct.cut b l := by
  unfold Pct.cutP
  cases h : Pct.cut b l with
  | nil => exact absurd h (Pct.cut_ne b l)
  | cons q qs => simp
theorem Pct.cutP_ne {b c : UInt8} (pre t : List UInt8) (h : c ≠ b) : Pct.cutP b pre (c :: t) = Pct.cutP b (pre ++ [c]) t := by
  unfold Pct.cutP
  simp only [Pct.cut, if_neg h]
  simp
theorem Pct.cutP_eq (b : UInt8) (pre t : List UInt8) : Pct.cutP b pre (b :: t) = pre :: Pct.cut b t := by
  unfold Pct.cutP
  simp [Pct.cut]
theorem Pct.cutP_end (b : UInt8) (pre : List UInt8) : Pct.cutP b pre [] = [pre] := by simp [Pct.cutP, Pct.cut]
theorem piece_size (s : ByteArray) (a i : Nat) (h1 : a ≤ i) (h2 : i ≤ s.size) : (s.extract a i).size = i - a := by simp; omega
theorem piece_snoc (s : ByteArray) (a i : Nat) (h1 : a ≤ i) (h2 : i < s.size) : (s.extract a (i + 1)).data.toList = (s.extract a i).data.toList ++ [s[i]] := by
  have hl : s.data.toList.length = s.size := rfl
  rw [Lib.extract_data, Lib.extract_data, show i + 1 - a = (i - a) + 1 by omega, List.take_succ_eq_append_getElem (by rw [List.length_drop]; omega)]
  congr 2
  rw [List.getElem_drop]
  have e : a + (i - a) = i := by omega
  simp only [e]
  rfl
theorem piece_none (s : ByteArray) (i : Nat) : (s.extract i i).data.toList = [] := by rw [Lib.extract_data]; simp
/-- what the reference's Split leaves -/
def AnsP (w : World) (r : List ByteArray × Nat × Nat) (e : Ending) (w' : World) : Prop :=
  Below w.heap.size w w' ∧ ((r.2.2 = 0 ∧ ∃ v, e = .returned (.tuple #[v, .int .i64 0, .int .i64 0]) ∧ Texts w' v r.1) ∨
    (r.2.2 ≠ 0 ∧ e = .returned (.tuple #[.slice none 0 0, .int .i64 r.2.1, .int .i64 r.2.2])))

theorem ret_tup3 {a b : Int} {u v : Value} (h : a = b) : Ending.returned (.tuple #[u, .int .i64 a, v]) = .returned (.tuple #[u, .int .i64 b, v]) := by rw [h]

set_option maxRecDepth 100000 in
set_option maxHeartbeats 2000000 in
theorem refSplit_any (s : ByteArray) (b : UInt8) (w : World) (hs : s.size ≤ 1000) (h37 : b.toNat ≠ 37) (hh : Pct.hex b.toNat = none) :
    Calls Tryd.prog 20 #[.string s, .int .u8 b.toNat] w (AnsP w (Pct.spl (Pct.cut b s.data.toList) 0)) := by
  obtain ⟨i0, hi, hz0, hz1, hz2⟩ := info_parts Tryd.infoStr
  have hz : ((b.toNat : Int) == 37) = false := by simp; omega
  have HDG := Hid.mk' (fun w => digit_none b.toNat w hh)
  have HSL : Hid (s.data.toList.length = s.size) := rfl
  clear h37 hh
  go_enter Tryd.func20, Tryd.ntmps20
  go_wp2_with (go_at_call 27; refine (HDG.out _).mono ?_; rintro e w1 ⟨rfl, rfl⟩)
  go_loopw [7, 8, 9, 10] (fun out fr i _ wr => ∃ (k a : Nat) (ts : List ByteArray), i = .int .i64 k ∧ fr = .int .i64 a ∧ a ≤ k ∧ k ≤ s.size + 1 ∧ ts.length ≤ k ∧ wr.ownsRow w.heap.size 9 1 out ts.length (ts.map Value.string) ∧ Below w.heap.size w wr ∧ Hid ((k ≤ s.size ∧ Pct.spl (Pct.cut b s.data.toList) 0 = Pct.glueS ts (Pct.spl (Pct.cutP b (s.extract a k).data.toList (s.data.toList.drop k)) a)) ∨ (k = s.size + 1 ∧ Pct.spl (Pct.cut b s.data.toList) 0 = (ts, 0, 0)))) (fun _ _ i _ _ => s.size + 1 - (intOf i).toNat)
  case atStart =>
    refine ⟨0, 0, [], rfl, rfl, Nat.le_refl _, Nat.zero_le _, Nat.le_refl _, World.ownsRow_nil _ _ _ _, Below.refl _ _, .inl ⟨Nat.zero_le _, ?_⟩⟩
    rw [piece_none, Pct.cutP_nil]
    exact Pct.spl_start _
  case round =>
    obtain ⟨k, a, ts, rfl, rfl, hak, hk, htl, hown, hbel, HD⟩ := hrel
    by_cases hle : k ≤ s.size
    · have HD1 : Hid (Pct.spl (Pct.cut b s.data.toList) 0 = Pct.glueS ts (Pct.spl (Pct.cutP b (s.extract a k).data.toList (s.data.toList.drop k)) a)) := by
        rcases HD.out with h | h
        · exact h.2
        · omega
      clear HD
      by_cases hne : ∃ h : k < s.size, s[k] ≠ b
      · obtain ⟨hlt, hcb⟩ := hne
        have hcz : ((s[k].toNat : Int) != (b.toNat : Int)) = true := by
          have : s[k].toNat ≠ b.toNat := fun e => hcb (UInt8.toNat_inj.1 e)
          simp; omega
        have HR : Hid (Pct.spl (Pct.cut b s.data.toList) 0 = Pct.glueS ts (Pct.spl (Pct.cutP b (s.extract a (k + 1)).data.toList (s.data.toList.drop (k + 1))) a)) := by
          show _ = _
          rw [HD1.out, drop_cons s k hlt, Pct.cutP_ne _ _ hcb, piece_snoc s a k hak hlt]
        clear hcb
        go_wp2
        go_roundw
        case rel => exact ⟨k + 1, a, ts, by go_num, rfl, by omega, by omega, by omega, hown, hbel, .inl ⟨by omega, HR.out⟩⟩
        case measure => simp [intOf]; omega
      · by_cases hlt : k < s.size
        · have hcb : s[k] = b := Classical.byContradiction fun h => hne ⟨hlt, h⟩
          have hcz : ((s[k].toNat : Int) != (b.toNat : Int)) = false := by simp [hcb]
          have HC : Hid (Pct.cutP b (s.extract a k).data.toList (s.data.toList.drop k) = (s.extract a k).data.toList :: Pct.cut b (s.data.toList.drop (k + 1))) := by
            show _ = _
            rw [drop_cons s k hlt, hcb, Pct.cutP_eq]
          have hpl : (s.extract a k).data.toList.length = k - a := piece_size s a k hak hle
          have HN : Hid (∀ l, Pct.un (s.extract a k).data.toList 0 = (l, 0, 0) → (k + 1 ≤ s.size ∧ Pct.spl (Pct.cut b s.data.toList) 0 = Pct.glueS (ts ++ [Pct.str l]) (Pct.spl (Pct.cutP b (s.extract (k + 1) (k + 1)).data.toList (s.data.toList.drop (k + 1))) (k + 1))) ∨ (k + 1 = s.size + 1 ∧ Pct.spl (Pct.cut b s.data.toList) 0 = (ts ++ [Pct.str l], 0, 0))) := fun l hu => .inl ⟨by omega, by
            rw [HD1.out, HC.out, Pct.spl_ok _ _ hu, Pct.glueS_glueS, piece_none, Pct.cutP_nil, hpl, show a + (k - a) + 1 = k + 1 by omega]; rfl⟩
          have HE : Hid (∀ kk c, Pct.un (s.extract a k).data.toList 0 = ([], kk, c) → c ≠ 0 → Pct.spl (Pct.cut b s.data.toList) 0 = ([], a + kk, c)) := fun kk c hu hc => by
            rw [HD1.out, HC.out, Pct.spl_bad _ _ hu hc, Pct.glueS_bad _ _ _ hc]
          clear hcb hne hpl
          have hps := piece_size s a k hak hle
          rcases un_cases (s.extract a k).data.toList with ⟨l, hu⟩ | ⟨kk, c, hu, hcc⟩
          · have HU := Hid.mk' (refUn_c (s.extract a k) wr (by omega) l 0 0 hu)
            have HNX := Hid.mk' (HN.out l hu)
            clear hu
            generalize Pct.str l = t at *
            go_wp2_with fail
            refine HU.out.mono ?_
            rintro e w3 ⟨v, rfl, ⟨va, vc, rfl, -⟩, hb3⟩
            have ho3 := owns_below hown hb3
            have hs3 := hb3.size
            have hs0 := hbel.size
            have ho4 := ho3.alloc (.cells #[.string t, .slice va (l.map fun x => (x.1 : Int)).length vc, .int .i64 (0 : Nat), .int .i64 (0 : Nat)] 29)
            have hb4 := (hbel.trans (hb3.mono hs0)).alloc (by omega) (.cells #[.string t, .slice va (l.map fun x => (x.1 : Int)).length vc, .int .i64 (0 : Nat), .int .i64 (0 : Nat)] 29)
            have hnw := cells_new (w3.alloc (.cells #[.string t, .slice va (l.map fun x => (x.1 : Int)).length vc, .int .i64 (0 : Nat), .int .i64 (0 : Nat)] 29)) [.string t] 9
            simp only [World.size_alloc, List.length_map] at hnw ho4 hb4
            have HO4 := Hid.mk' ho4
            have HB4 := Hid.mk' hb4
            have HNW := Hid.mk' hnw
            clear ho4 hb4 hnw ho3 hb3
            go_wp2_with (at_builtin; refine wpList_append_own _ rfl _ _ 38 rfl w.heap.size 9 i0 (.string ByteArray.empty) 1 16 Tryd.underlying38 hi hz0 hz1 hz2 rfl (by decide) _ _ _ rfl (HO4.out.alloc _) ⟨w3.heap.size + 1, 0, none⟩ 1 1 [.string t] rfl rfl HNW.out (by intro u hu; simp at hu; subst hu; rfl) (by unfold maxLen; omega) (by omega) (by simp; omega) ?_; intro v' w4 hown' hgrow _)
            have R1 := (HB4.out.alloc (by simp; omega) _).grown hgrow (by simp; omega) (fun j hj => (hown.lt j hj).1)
            clear hgrow hown
            go_roundw
            case rel => exact ⟨k + 1, k + 1, ts ++ [t], by go_num, by go_num, by omega, by omega, by simp; omega, by simpa using hown', R1, HNX.out⟩
            case measure => simp [intOf]; omega
          · have HU := Hid.mk' (refUn_e (s.extract a k) wr (by omega) kk c hu)
            have HER := Hid.mk' (HE.out kk c hu (by omega))
            have hkk : kk < (s.extract a k).size := un_place _ kk c hu (by omega)
            have hcz2 : ((c : Int) != 0) = true := by simp; omega
            clear hu
            go_wp2_with fail
            refine HU.out.mono ?_
            rintro e w3 ⟨va, vc, rfl, hb3⟩
            have hs0 := hbel.size
            have HB4 := Hid.mk' (fun o => (hbel.trans (hb3.mono hs0)).alloc (by have := hb3.size; omega) o)
            clear hb3
            go_wp2
            go_region
            go_wp2
            go_ret3
            rw [HER.out]
            exact ⟨(HB4.out _).drew, .inr ⟨(show c ≠ 0 by omega), ret_tup3 (show (a : Int) + kk = ((a + kk : Nat) : Int) by omega)⟩⟩
        · have hd : decide ((k : Int) < (s.size : Int)) = false := by simp; omega
          have HC : Hid (Pct.cutP b (s.extract a k).data.toList (s.data.toList.drop k) = [(s.extract a k).data.toList]) := by
            show _ = _
            rw [List.drop_of_length_le (by rw [HSL.out]; omega), Pct.cutP_end]
          have HN : Hid (∀ l, Pct.un (s.extract a k).data.toList 0 = (l, 0, 0) → (k + 1 ≤ s.size ∧ Pct.spl (Pct.cut b s.data.toList) 0 = Pct.glueS (ts ++ [Pct.str l]) (Pct.spl (Pct.cutP b (s.extract (k + 1) (k + 1)).data.toList (s.data.toList.drop (k + 1))) (k + 1))) ∨ (k + 1 = s.size + 1 ∧ Pct.spl (Pct.cut b s.data.toList) 0 = (ts ++ [Pct.str l], 0, 0))) := fun l hu => .inr ⟨by omega, by
            rw [HD1.out, HC.out, Pct.spl_ok _ _ hu, Pct.glueS_glueS]; exact Pct.glueS_nil _⟩
          have HE : Hid (∀ kk c, Pct.un (s.extract a k).data.toList 0 = ([], kk, c) → c ≠ 0 → Pct.spl (Pct.cut b s.data.toList) 0 = ([], a + kk, c)) := fun kk c hu hc => by
            rw [HD1.out, HC.out, Pct.spl_bad _ _ hu hc, Pct.glueS_bad _ _ _ hc]
          clear hne
          have hps := piece_size s a k hak hle
          rcases un_cases (s.extract a k).data.toList with ⟨l, hu⟩ | ⟨kk, c, hu, hcc⟩
          · have HU := Hid.mk' (refUn_c (s.extract a k) wr (by omega) l 0 0 hu)
            have HNX := Hid.mk' (HN.out l hu)
            clear hu
            generalize Pct.str l = t at *
            go_wp2_with fail
            refine HU.out.mono ?_
            rintro e w3 ⟨v, rfl, ⟨va, vc, rfl, -⟩, hb3⟩
            have ho3 := owns_below hown hb3
            have hs3 := hb3.size
            have hs0 := hbel.size
            have ho4 := ho3.alloc (.cells #[.string t, .slice va (l.map fun x => (x.1 : Int)).length vc, .int .i64 (0 : Nat), .int .i64 (0 : Nat)] 29)
            have hb4 := (hbel.trans (hb3.mono hs0)).alloc (by omega) (.cells #[.string t, .slice va (l.map fun x => (x.1 : Int)).length vc, .int .i64 (0 : Nat), .int .i64 (0 : Nat)] 29)
            have hnw := cells_new (w3.alloc (.cells #[.string t, .slice va (l.map fun x => (x.1 : Int)).length vc, .int .i64 (0 : Nat), .int .i64 (0 : Nat)] 29)) [.string t] 9
            simp only [World.size_alloc, List.length_map] at hnw ho4 hb4
            have HO4 := Hid.mk' ho4
            have HB4 := Hid.mk' hb4
            have HNW := Hid.mk' hnw
            clear ho4 hb4 hnw ho3 hb3
            go_wp2_with (at_builtin; refine wpList_append_own _ rfl _ _ 38 rfl w.heap.size 9 i0 (.string ByteArray.empty) 1 16 Tryd.underlying38 hi hz0 hz1 hz2 rfl (by decide) _ _ _ rfl (HO4.out.alloc _) ⟨w3.heap.size + 1, 0, none⟩ 1 1 [.string t] rfl rfl HNW.out (by intro u hu; simp at hu; subst hu; rfl) (by unfold maxLen; omega) (by omega) (by simp; omega) ?_; intro v' w4 hown' hgrow _)
            have R1 := (HB4.out.alloc (by simp; omega) _).grown hgrow (by simp; omega) (fun j hj => (hown.lt j hj).1)
            clear hgrow hown
            go_roundw
            case rel => exact ⟨k + 1, k + 1, ts ++ [t], by go_num, by go_num, by omega, by omega, by simp; omega, by simpa using hown', R1, HNX.out⟩
            case measure => simp [intOf]; omega
          · have HU := Hid.mk' (refUn_e (s.extract a k) wr (by omega) kk c hu)
            have HER := Hid.mk' (HE.out kk c hu (by omega))
            have hkk : kk < (s.extract a k).size := un_place _ kk c hu (by omega)
            have hcz2 : ((c : Int) != 0) = true := by simp; omega
            clear hu
            go_wp2_with fail
            refine HU.out.mono ?_
            rintro e w3 ⟨va, vc, rfl, hb3⟩
            have hs0 := hbel.size
            have HB4 := Hid.mk' (fun o => (hbel.trans (hb3.mono hs0)).alloc (by have := hb3.size; omega) o)
            clear hb3
            go_wp2
            go_region
            go_wp2
            go_ret3
            rw [HER.out]
            exact ⟨(HB4.out _).drew, .inr ⟨(show c ≠ 0 by omega), ret_tup3 (show (a : Int) + kk = ((a + kk : Nat) : Int) by omega)⟩⟩
    · have HE : Hid (Pct.spl (Pct.cut b s.data.toList) 0 = (ts, 0, 0)) := by
        rcases HD.out with h | h
        · omega
        · exact h.2
      have HT := Hid.mk' (Texts.own hown)
      clear hown
      go_wp2
      go_ret3
      rw [HE.out]
      exact ⟨hbel, .inl ⟨rfl, _, rfl, HT.out⟩⟩
end Go.Proofs.YteflghhpdikidaaDoor

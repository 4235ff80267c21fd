/-
  What is proved here: what slices.swapRangeCmpFunc and slices.rotateCmpFunc do to a row of runes.
-/
import Derived.Test.YtoceaielclomcaaRRGreatDoorS0
import Derived.Test.YtoceaielclomcaaRRGreatDoorBase
import Derived.Shelf.SlSortCmp.Insertion1
namespace Go.Proofs.YtoceaielclomcaaRRGreatDoor
open Go.RowKit Go.Sort

theorem rune_one : OneCell (Value.int .i32) := by first | exact ⟨fun _ => rfl⟩ | exact fun _ => rfl | exact oneCell_int
/-- the world in which the row at a place of a block holds these runes -/
def SL (w0 : World) (blk off : Nat) (L : List Int) (W : World) : Prop := SW (Value.int .i32) w0 blk off L.toArray W
/-- what is known of the row at the start -/
def RL (w0 : World) (blk off : Nat) (L : List Int) : Prop := Row1 (Value.int .i32) w0 blk off L.toArray
theorem arr_get (L : List Int) (i : Nat) : L.toArray[i]! = L.getD i 0 := by
  simp [List.getD]
def swapL (L : List Int) (i j : Nat) : List Int := (L.set i (L.getD j 0)).set j (L.getD i 0)
theorem swp_toArray (L : List Int) (i j : Nat) : swp L.toArray i j = (swapL L i j).toArray := by
  unfold swp swapL
  rw [arr_get, arr_get]
  simp
theorem swapL_length (L : List Int) (i j : Nat) : (swapL L i j).length = L.length := by simp [swapL]
theorem SL.cell {w0 W : World} {blk off : Nat} {L L0 : List Int} (h : SL w0 blk off L W) (R : RL w0 blk off L0) (hs : L.length = L0.length) (i : Nat) (hi : i < L.length) : W.cell? ⟨blk, off + i, none⟩ = some (.int .i32 (L.getD i 0)) := by
  have := SW.c1 h R (by simpa using hs) i (by simpa using hi)
  rwa [arr_get] at this
theorem SL.frz {w0 W : World} {blk off : Nat} {L L0 : List Int} (h : SL w0 blk off L W) (R : RL w0 blk off L0) (hs : L.length = L0.length) (i : Nat) (hi : i < L.length) : W.frozen? ⟨blk, off + i, none⟩ = false :=
  SW.f1 h R (by simpa using hs) i (by simpa using hi)
theorem SL.two {w0 W : World} {blk off : Nat} {L L0 : List Int} (h : SL w0 blk off L W) (R : RL w0 blk off L0) (hs : L.length = L0.length) (i j : Nat) (hi : i < L.length) (hj : j < L.length) (v : Value) : ∃ u, (W.setCell ⟨blk, off + i, none⟩ v).cell? ⟨blk, off + j, none⟩ = some u :=
  SW.c2 h R (by simpa using hs) i j (by simpa using hi) (by simpa using hj) v
theorem SL.swap {w0 W : World} {blk off : Nat} {L L0 : List Int} (h : SL w0 blk off L W) (R : RL w0 blk off L0) (i j : Nat) (hi : i < L.length) (hj : j < L.length) : SL w0 blk off (swapL L i j) ((W.setCell ⟨blk, off + i, none⟩ (.int .i32 (L.getD j 0))).setCell ⟨blk, off + j, none⟩ (.int .i32 (L.getD i 0))).drew := by
  have := SW.swapped h R i j (by simpa using hi) (by simpa using hj)
  rw [arr_get, arr_get, swp_toArray] at this
  exact this
theorem swapL_two (P Q R : List Int) (x y : Int) : swapL (P ++ x :: (Q ++ y :: R)) P.length (P.length + 1 + Q.length) = P ++ y :: (Q ++ x :: R) := by
  have e1 : (P ++ x :: (Q ++ y :: R)).getD (P.length + 1 + Q.length) 0 = y := by
    have : P.length + 1 + Q.length = P.length + (Q.length + 1) := by omega
    rw [this]; simp [List.getD]
  have e2 : (P ++ x :: (Q ++ y :: R)).getD P.length 0 = x := by simp [List.getD]
  unfold swapL
  rw [e1, e2]
  have s1 : (P ++ x :: (Q ++ y :: R)).set P.length y = P ++ y :: (Q ++ y :: R) := by rw [List.set_append_right _ _ (Nat.le_refl _)]; simp
  rw [s1, List.set_append_right _ _ (by omega)]
  have : P.length + 1 + Q.length - P.length = Q.length + 1 := by omega
  rw [this, List.set_cons_succ, List.set_append_right _ _ (Nat.le_refl _)]
  simp
theorem getD_two (P Q R : List Int) (x y : Int) : (P ++ x :: (Q ++ y :: R)).getD P.length 0 = x ∧ (P ++ x :: (Q ++ y :: R)).getD (P.length + 1 + Q.length) 0 = y := by
  refine ⟨by simp [List.getD], ?_⟩
  have : P.length + 1 + Q.length = P.length + (Q.length + 1) := by omega
  rw [this]; simp [List.getD]
set_option maxRecDepth 20000 in
set_option maxHeartbeats 4000000 in
theorem swapRange_any (fv : Fn) (fb : Array Value) (w0 : World) (blk off cap : Nat) (L0 : List Int) (R : RL w0 blk off L0) (A U B V C : List Int) (hUV : U.length = V.length) (hl : (A ++ U ++ B ++ V ++ C).length = L0.length) (hs : L0.length ≤ 2147483648) (w : World) (S : SL w0 blk off (A ++ U ++ B ++ V ++ C) w) :
    Calls Tryz.prog 167 #[.slice (some ⟨blk, off, none⟩) L0.length cap, .int .i64 A.length, .int .i64 (A.length + U.length + B.length : Nat), .int .i64 U.length, .func fv #[] fb] w fun e w' => e = .returned (.tuple #[]) ∧ SL w0 blk off (A ++ V ++ B ++ U ++ C) w' := by
  have HR := Hid.mk' R
  have S0 := Hid.mk' S
  have hlen : A.length + U.length + B.length + V.length + C.length = L0.length := by rw [← hl]; simp only [List.length_append]
  obtain ⟨a, ha⟩ : ∃ a, A.length = a := ⟨_, rfl⟩
  obtain ⟨n, hn⟩ : ∃ n, U.length = n := ⟨_, rfl⟩
  obtain ⟨b, hb⟩ : ∃ b, A.length + U.length + B.length = b := ⟨_, rfl⟩
  obtain ⟨sz, hsz⟩ : ∃ sz, L0.length = sz := ⟨_, rfl⟩
  have HL : Hid (A.length = a ∧ U.length = n ∧ V.length = n ∧ a + n + B.length = b ∧ b + n + C.length = sz ∧ L0.length = sz) := ⟨ha, hn, by omega, by omega, by omega, hsz⟩
  rw [hb, ha, hn, hsz]
  rw [hsz] at hs
  have hab : a + n ≤ b := by omega
  have hbn : b + n ≤ sz := by omega
  clear R S hl hlen ha hn hb hsz hUV
  go_enter Tryz.func167, Tryz.ntmps167
  go_wp2
  go_loopw [10] (fun x wr => ∃ k : Nat, x = .int .i64 k ∧ k ≤ n ∧ Hid (∃ U1 U2 V1 V2, U = U1 ++ U2 ∧ V = V1 ++ V2 ∧ U1.length = k ∧ V1.length = k ∧ SL w0 blk off (A ++ V1 ++ U2 ++ B ++ U1 ++ V2 ++ C) wr)) (fun y _ => n - (intOf y).toNat)
  case atStart => exact ⟨0, rfl, Nat.zero_le _, ⟨[], U, [], V, rfl, rfl, rfl, rfl, by simpa using S0.out⟩⟩
  case round =>
    obtain ⟨k, rfl, hk, hI⟩ := hrel
    clear S0
    by_cases hlt : k < n
    · obtain ⟨i, hi⟩ : ∃ i, i = a + k := ⟨_, rfl⟩
      obtain ⟨j, hj⟩ : ∃ j, j = b + k := ⟨_, rfl⟩
      obtain ⟨x, y, u, ca, cb, cc, fa, fc, HN⟩ : ∃ (x y : Int) (u : Value), wr.cell? ⟨blk, off + i, none⟩ = some (.int .i32 x) ∧ wr.cell? ⟨blk, off + j, none⟩ = some (.int .i32 y) ∧ (wr.setCell ⟨blk, off + i, none⟩ (.int .i32 y)).cell? ⟨blk, off + j, none⟩ = some u ∧ wr.frozen? ⟨blk, off + i, none⟩ = false ∧ wr.frozen? ⟨blk, off + j, none⟩ = false ∧ Hid (∃ U1 U2 V1 V2, U = U1 ++ U2 ∧ V = V1 ++ V2 ∧ U1.length = k + 1 ∧ V1.length = k + 1 ∧ SL w0 blk off (A ++ V1 ++ U2 ++ B ++ U1 ++ V2 ++ C) ((wr.setCell ⟨blk, off + i, none⟩ (.int .i32 y)).setCell ⟨blk, off + j, none⟩ (.int .i32 x)).drew) := by
        obtain ⟨U1, U2, V1, V2, rfl, rfl, h1, h2, hS⟩ := hI.out
        obtain ⟨q1, q2, q3, q4, q5, q6⟩ := HL.out
        simp only [List.length_append] at q2 q3
        obtain ⟨u, U2, rfl⟩ : ∃ u U, U2 = u :: U := by
          cases U2 with
          | nil => simp at q2; omega
          | cons u U => exact ⟨u, U, rfl⟩
        obtain ⟨v, V2, rfl⟩ : ∃ u U, V2 = u :: U := by
          cases V2 with
          | nil => simp at q3; omega
          | cons u U => exact ⟨u, U, rfl⟩
        simp only [List.length_cons] at q2 q3
        have e0 : A ++ V1 ++ u :: U2 ++ B ++ U1 ++ v :: V2 ++ C = (A ++ V1) ++ u :: ((U2 ++ B ++ U1) ++ v :: (V2 ++ C)) := by simp
        rw [e0] at hS
        have ei : i = (A ++ V1).length := by simp; omega
        have ej : j = (A ++ V1).length + 1 + (U2 ++ B ++ U1).length := by simp; omega
        obtain ⟨g1, g2⟩ := getD_two (A ++ V1) (U2 ++ B ++ U1) (V2 ++ C) u v
        have g3 := swapL_two (A ++ V1) (U2 ++ B ++ U1) (V2 ++ C) u v
        rw [← ej] at g2 g3
        rw [← ei] at g1 g3
        have hL : (A ++ V1 ++ u :: ((U2 ++ B ++ U1) ++ v :: (V2 ++ C))).length = L0.length := by simp; omega
        have hi' : i < (A ++ V1 ++ u :: ((U2 ++ B ++ U1) ++ v :: (V2 ++ C))).length := by rw [hL]; omega
        have hj' : j < (A ++ V1 ++ u :: ((U2 ++ B ++ U1) ++ v :: (V2 ++ C))).length := by rw [hL]; omega
        obtain ⟨z, hz⟩ := hS.two HR.out hL i j hi' hj' (.int .i32 v)
        have c1 := hS.cell HR.out hL i hi'
        have c2 := hS.cell HR.out hL j hj'
        have c3 := hS.swap HR.out i j hi' hj'
        rw [g1] at c1 c3
        rw [g2] at c2 c3
        rw [g3] at c3
        refine ⟨u, v, z, c1, c2, hz, hS.frz HR.out hL i hi', hS.frz HR.out hL j hj', U1 ++ [u], U2, V1 ++ [v], V2, by simp, by simp, by simp; omega, by simp; omega, ?_⟩
        simpa using c3
      have ei : ((a : Int) + (k : Int)).toNat = i := by omega
      have pi : (0 : Int) ≤ (a : Int) + (k : Int) := by omega
      have bi : (a : Int) + (k : Int) < (sz : Int) := by omega
      have ri : IntKind.i64.wrap ((a : Int) + (k : Int)) = (a : Int) + (k : Int) := by rw [IntKind.wrap_i64]; omega
      have ej : ((b : Int) + (k : Int)).toNat = j := by omega
      have pj : (0 : Int) ≤ (b : Int) + (k : Int) := by omega
      have bj : (b : Int) + (k : Int) < (sz : Int) := by omega
      have rj : IntKind.i64.wrap ((b : Int) + (k : Int)) = (b : Int) + (k : Int) := by rw [IntKind.wrap_i64]; omega
      clear hI hi hj
      go_wp2
      go_region
      generalize ((wr.setCell ⟨blk, off + i, none⟩ (.int .i32 y)).setCell ⟨blk, off + j, none⟩ (.int .i32 x)).drew = w3 at HN ⊢
      clear ca cb cc fa fc ei pi bi ri ej pj bj rj
      go_wp2
      go_roundw
      case rel => exact ⟨k + 1, by go_num, by omega, HN⟩
      case measure => simp [intOf]; omega
    · obtain rfl : k = n := by omega
      go_wp2
      go_end0
      refine ⟨rfl, ?_⟩
      obtain ⟨U1, U2, V1, V2, rfl, rfl, h1, h2, hS⟩ := hI.out
      obtain ⟨q1, q2, q3, q4, q5, q6⟩ := HL.out
      simp only [List.length_append] at q2 q3
      obtain rfl : U2 = [] := List.length_eq_zero_iff.1 (by omega)
      obtain rfl : V2 = [] := List.length_eq_zero_iff.1 (by omega)
      simpa using hS
set_option maxRecDepth 20000 in
set_option maxHeartbeats 4000000 in
theorem rotate_any (fv : Fn) (fb : Array Value) (w0 : World) (blk off cap : Nat) (L0 : List Int) (R : RL w0 blk off L0) (P X Y Q : List Int) (hX : 0 < X.length) (hY : 0 < Y.length) (hl : (P ++ X ++ Y ++ Q).length = L0.length) (hs : L0.length ≤ 2147483648) (w : World) (S : SL w0 blk off (P ++ X ++ Y ++ Q) w) :
    Calls Tryz.prog 166 #[.slice (some ⟨blk, off, none⟩) L0.length cap, .int .i64 P.length, .int .i64 (P.length + X.length : Nat), .int .i64 (P.length + X.length + Y.length : Nat), .func fv #[] fb] w fun e w' => e = .returned (.tuple #[]) ∧ SL w0 blk off (P ++ Y ++ X ++ Q) w' := by
  have S0 := Hid.mk' S
  have HSR : Hid (∀ (A U B V C : List Int) (a b n : Nat), A.length = a → A.length + U.length + B.length = b → U.length = n → V.length = n → (A ++ U ++ B ++ V ++ C).length = L0.length → ∀ W, SL w0 blk off (A ++ U ++ B ++ V ++ C) W → Calls Tryz.prog 167 #[.slice (some ⟨blk, off, none⟩) L0.length cap, .int .i64 a, .int .i64 b, .int .i64 n, .func fv #[] fb] W fun e w' => e = .returned (.tuple #[]) ∧ SL w0 blk off (A ++ V ++ B ++ U ++ C) w') := fun A U B V C a b n ha hb hn hn' hL W hW => by
    subst ha hb hn
    exact swapRange_any fv fb w0 blk off cap L0 R A U B V C hn'.symm hL hs W hW
  have hlen : P.length + X.length + Y.length + Q.length = L0.length := by rw [← hl]; simp only [List.length_append]
  obtain ⟨a, ha⟩ : ∃ a, P.length = a := ⟨_, rfl⟩
  obtain ⟨i0, hi0⟩ : ∃ n, X.length = n := ⟨_, rfl⟩
  obtain ⟨j0, hj0⟩ : ∃ n, Y.length = n := ⟨_, rfl⟩
  obtain ⟨m, hm⟩ : ∃ m, P.length + X.length = m := ⟨_, rfl⟩
  obtain ⟨b, hb⟩ : ∃ b, m + Y.length = b := ⟨_, rfl⟩
  obtain ⟨sz, hsz⟩ : ∃ sz, L0.length = sz := ⟨_, rfl⟩
  have HF : Hid (P.length = a ∧ X.length = i0 ∧ Y.length = j0 ∧ b + Q.length = sz ∧ L0.length = sz) := ⟨ha, hi0, hj0, by omega, hsz⟩
  rw [hm, hb, ha, hsz]
  rw [hsz] at hs HSR
  have e1 : (m : Int) - (a : Int) = (i0 : Nat) := by omega
  have e2 : (b : Int) - (m : Int) = (j0 : Nat) := by omega
  have hbs : b ≤ sz := by omega
  have hi1 : 0 < i0 := by omega
  have hj1 : 0 < j0 := by omega
  have him : a + i0 = m := by omega
  have hmj : m + j0 = b := by omega
  generalize hT : P ++ Y ++ X ++ Q = T
  have HT := Hid.mk' hT
  clear R S hl hlen ha hi0 hj0 hm hb hsz hX hY hT
  go_enter Tryz.func166, Tryz.ntmps166
  go_wp2
  go_loopw [10, 11] (fun x y wr => ∃ i j : Nat, x = .int .i64 i ∧ y = .int .i64 j ∧ 0 < i ∧ 0 < j ∧ i ≤ m ∧ m + j ≤ b ∧ Hid (∃ P X Y Q : List Int, P.length = m - i ∧ X.length = i ∧ Y.length = j ∧ (P ++ X ++ Y ++ Q).length = sz ∧ T = P ++ Y ++ X ++ Q ∧ SL w0 blk off (P ++ X ++ Y ++ Q) wr)) (fun x y _ => (intOf x).toNat + (intOf y).toNat)
  case atStart => exact ⟨i0, j0, rfl, rfl, hi1, hj1, by omega, by omega, P, X, Y, Q, by have := HF.out; omega, HF.out.2.1, HF.out.2.2.1, by have := HF.out; simp; omega, HT.out.symm, S0.out⟩
  case round =>
    obtain ⟨i, j, rfl, rfl, hi, hj, hin, hjb, hI⟩ := hrel
    clear S0 e1 e2
    obtain ⟨p, hp⟩ : ∃ p : Nat, (m : Int) - (i : Int) = p := ⟨m - i, by omega⟩
    rcases (by omega : i = j ∨ j < i ∨ i < j) with rfl | hlt | hlt
    · have HC : Hid (Calls Tryz.prog 167 #[.slice (some ⟨blk, off, none⟩) sz cap, .int .i64 p, .int .i64 m, .int .i64 i, .func fv #[] fb] wr fun e w' => e = .returned (.tuple #[]) ∧ SL w0 blk off T w') := by
        obtain ⟨P, X, Y, Q, h1, h2, h3, h4, rfl, hS⟩ := hI.out
        have := HSR.out P X [] Y Q p m i (by omega) (by simp; omega) h2 h3 (by simpa using h4) wr (by simpa using hS)
        refine Hid.mk' ?_
        simpa using this
      clear hI HSR
      go_wp2_with fail
      refine HC.out.mono ?_
      rintro e w2 ⟨rfl, hS2⟩
      go_wp2
      go_end0
      exact ⟨rfl, hS2⟩
    · have HC : Hid (Calls Tryz.prog 167 #[.slice (some ⟨blk, off, none⟩) sz cap, .int .i64 p, .int .i64 m, .int .i64 j, .func fv #[] fb] wr fun e w' => e = .returned (.tuple #[]) ∧ ∃ P X Y Q : List Int, P.length = m - (i - j) ∧ X.length = i - j ∧ Y.length = j ∧ (P ++ X ++ Y ++ Q).length = sz ∧ T = P ++ Y ++ X ++ Q ∧ SL w0 blk off (P ++ X ++ Y ++ Q) w') := by
        obtain ⟨P, X, Y, Q, h1, h2, h3, h4, rfl, hS⟩ := hI.out
        obtain ⟨X1, X2, rfl, k1⟩ : ∃ X1 X2, X = X1 ++ X2 ∧ X1.length = j := ⟨X.take j, X.drop j, (List.take_append_drop _ _).symm, by simp; omega⟩
        simp only [List.length_append] at h2
        refine (HSR.out P X1 X2 Y Q p m j (by omega) (by omega) k1 h3 (by simp at h4 ⊢; omega) wr (by simpa using hS)).mono ?_
        rintro e w' ⟨he, hS'⟩
        exact ⟨he, P ++ Y, X2, X1, Q, by simp; omega, by omega, k1, by simp at h4 ⊢; omega, by simp, by simpa using hS'⟩
      obtain ⟨i', hi'⟩ : ∃ i' : Nat, (i : Int) - (j : Int) = i' := ⟨i - j, by omega⟩
      have hne : ((i : Int) != (j : Int)) = true := by simp; omega
      have hd : decide ((j : Int) < (i : Int)) = true := by simp; omega
      clear hI HSR
      go_wp2_with fail
      refine HC.out.mono ?_
      rintro e w2 ⟨rfl, hS2⟩
      have HN := Hid.mk' hS2
      rw [show i - j = i' by omega] at HN
      clear hS2
      go_wp2
      go_roundw
      case rel => exact ⟨i', j, rfl, rfl, by omega, hj, by omega, hjb, HN⟩
      case measure => simp [intOf]; omega
    · have HC : Hid (Calls Tryz.prog 167 #[.slice (some ⟨blk, off, none⟩) sz cap, .int .i64 p, .int .i64 (m + j - i : Nat), .int .i64 i, .func fv #[] fb] wr fun e w' => e = .returned (.tuple #[]) ∧ ∃ P X Y Q : List Int, P.length = m - i ∧ X.length = i ∧ Y.length = j - i ∧ (P ++ X ++ Y ++ Q).length = sz ∧ T = P ++ Y ++ X ++ Q ∧ SL w0 blk off (P ++ X ++ Y ++ Q) w') := by
        obtain ⟨P, X, Y, Q, h1, h2, h3, h4, rfl, hS⟩ := hI.out
        obtain ⟨Y1, Y2, rfl, k1⟩ : ∃ Y1 Y2, Y = Y1 ++ Y2 ∧ Y1.length = j - i := ⟨Y.take (j - i), Y.drop (j - i), (List.take_append_drop _ _).symm, by simp; omega⟩
        simp only [List.length_append] at h3
        refine (HSR.out P X Y1 Y2 Q p (m + j - i) i (by omega) (by omega) h2 (by omega) (by simp at h4 ⊢; omega) wr (by simpa using hS)).mono ?_
        rintro e w' ⟨he, hS'⟩
        exact ⟨he, P, Y2, Y1, X ++ Q, by omega, by omega, by omega, by simp at h4 ⊢; omega, by simp, by simpa using hS'⟩
      obtain ⟨q, hq⟩ : ∃ q : Nat, m + j - i = q := ⟨_, rfl⟩
      rw [hq] at HC
      obtain ⟨mj, hmj'⟩ : ∃ mj : Nat, (m : Int) + (j : Int) = mj := ⟨m + j, by omega⟩
      have hq' : (mj : Int) - (i : Int) = (q : Nat) := by omega
      obtain ⟨j', hj'⟩ : ∃ j' : Nat, (j : Int) - (i : Int) = j' := ⟨j - i, by omega⟩
      have hne : ((i : Int) != (j : Int)) = true := by simp; omega
      have hd : decide ((j : Int) < (i : Int)) = false := by simp; omega
      have hmjw : mj ≤ 2147483648 := by omega
      clear hI HSR hq
      go_wp2_with fail
      refine HC.out.mono ?_
      rintro e w2 ⟨rfl, hS2⟩
      have HN := Hid.mk' hS2
      rw [show j - i = j' by omega] at HN
      clear hS2
      go_wp2
      go_roundw
      case rel => exact ⟨i, j', rfl, rfl, hi, by omega, hin, by omega, HN⟩
      case measure => simp [intOf]; omega
end Go.Proofs.YtoceaielclomcaaRRGreatDoor

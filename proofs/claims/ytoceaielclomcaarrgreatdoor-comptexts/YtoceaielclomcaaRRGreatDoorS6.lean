/-
  What is proved here: what slices.stableCmpFunc and slices.SortStableFunc do to a row of runes.
-/
import Derived.Test.YtoceaielclomcaaRRGreatDoorS5
import Derived.Deep.CutRange
namespace Go.Proofs.YtoceaielclomcaaRRGreatDoor
open Go.RowKit Go.Sort

section
variable {c : Int → Int}
theorem Runs.two {n s f a : Nat} {L : List Int} (h : Runs c n s L f a) (hs : 0 < s) (hb : a + s + s ≤ n) : ∃ f', Srt c a (a + s) L ∧ Srt c (a + s) (a + s + s) L ∧ Runs c n s L f' (a + s + s) := by
  cases f with
  | zero => exact absurd h (by show ¬ n ≤ a; omega)
  | succ f =>
    rcases h with h | ⟨h1, h2⟩
    · omega
    · rw [Nat.min_eq_left (by omega)] at h1
      cases f with
      | zero => exact absurd h2 (by show ¬ n ≤ a + s; omega)
      | succ f =>
        rcases h2 with h | ⟨h3, h4⟩
        · omega
        · rw [Nat.min_eq_left (by omega)] at h3
          exact ⟨f, h1, h3, h4⟩
theorem Runs.last {n s f a : Nat} {L : List Int} (h : Runs c n s L f a) (hb : n < a + s + s) (hm : a + s < n) : Srt c a (a + s) L ∧ Srt c (a + s) n L := by
  cases f with
  | zero => exact absurd h (by show ¬ n ≤ a; omega)
  | succ f =>
    rcases h with h | ⟨h1, h2⟩
    · omega
    · rw [Nat.min_eq_left (by omega)] at h1
      cases f with
      | zero => exact absurd h2 (by show ¬ n ≤ a + s; omega)
      | succ f =>
        rcases h2 with h | ⟨h3, h4⟩
        · omega
        · rw [Nat.min_eq_right (by omega)] at h3
          exact ⟨h1, h3⟩
theorem Runs.end {n s f a : Nat} {L : List Int} (h : Runs c n s L f a) (hm : n ≤ a + s) : Srt c a n L := by
  cases f with
  | zero => intro i j h1 h2 h3; have : n ≤ a := h; omega
  | succ f =>
    rcases h with h | ⟨h1, h2⟩
    · intro i j h1 h2 h3; omega
    · rwa [Nat.min_eq_right hm] at h1
theorem RT.start {n s a : Nat} {L : List Int} (h : RT c s L a) (ht : Srt c a n L) (hs : n ≤ a + s) : ∃ f, Runs c n s L f 0 :=
  h.runs 1 (.inr ⟨by rw [Nat.min_eq_right hs]; exact ht, by show n ≤ a + s; omega⟩)
end
set_option maxRecDepth 20000 in
set_option maxHeartbeats 8000000 in
theorem stable_any (c : Int → Int) (g : Nat) (cb : Array Value) (cf : Int → Int → Int) (hcf : ∀ x y, decide (cf x y < 0) = decide (c x < c y)) (eg : ∀ args w, (callFunc g args).run Tryz.prog w = .ok (.enter g args) w) (w0 : World) (blk off cap : Nat) (L0 : List Int) (R : RL w0 blk off L0) (hcm : CmpL g cb cf blk off L0.length w0) (hs : L0.length ≤ 268435456) (w : World) (S : SL w0 blk off L0 w) :
    Calls Tryz.prog 153 #[.slice (some ⟨blk, off, none⟩) L0.length cap, .int .i64 L0.length, .func (.func g) #[] cb] w fun e w' => e = .returned (.tuple #[]) ∧ ∃ L', Bub c 0 L0.length L0 L' ∧ Srt c 0 L0.length L' ∧ SL w0 blk off L' w' := by
  have HIN : Hid (∀ (a b : Nat) (L : List Int) (W : World), a ≤ b → b ≤ L0.length → L.length = L0.length → SL w0 blk off L W → _) := fun a b L W h1 h2 h3 h4 => insertion_any hcf g cb eg w0 blk off cap L0 R hcm (by omega) a b L W h1 (by omega) h3 h4
  have HSM : Hid (∀ (a m b : Nat) (L : List Int) (W : World), a < m → m < b → b ≤ L0.length → L.length = L0.length → Srt c a m L → Srt c m b L → SL w0 blk off L W → _) := fun a m b L W h1 h2 h3 h4 h5 h6 h7 => symMerge_any c g cb cf hcf eg w0 blk off cap L0 R hcm (by omega) (b - a) a m b L W (Nat.le_refl _) h1 h2 (by omega) h4 h5 h6 h7
  have S0 := Hid.mk' S
  obtain ⟨n, hn⟩ : ∃ n, L0.length = n := ⟨_, rfl⟩
  have HN := Hid.mk' hn
  rw [hn] at hs HIN HSM ⊢
  clear R hcm hcf S hn
  go_enter Tryz.func153, Tryz.ntmps153
  go_wp2
  go_loopw [7, 8] (fun x y wr => ∃ a b : Nat, x = .int .i64 a ∧ y = .int .i64 b ∧ a ≤ n ∧ b = a + 20 ∧ Hid (∃ L, L.length = n ∧ Bub c 0 n L0 L ∧ RT c 20 L a ∧ SL w0 blk off L wr)) (fun _ y _ => n + 20 - (intOf y).toNat)
  case atStart => exact ⟨0, 20, rfl, rfl, Nat.zero_le _, rfl, L0, HN.out, .refl _, .zero, S0.out⟩
  case round =>
    obtain ⟨a, b, rfl, rfl, han, hab, hI⟩ := hrel
    clear S0
    have HAB := Hid.mk' hab
    by_cases hlt : b ≤ n
    · have hbz : (b : Int) ≤ (n : Int) := by omega
      have HC : Hid (Calls Tryz.prog 163 #[.slice (some ⟨blk, off, none⟩) n cap, .int .i64 a, .int .i64 b, .func (.func g) #[] cb] wr fun e w' => e = .returned (.tuple #[]) ∧ Hid (∃ L, L.length = n ∧ Bub c 0 n L0 L ∧ RT c 20 L b ∧ SL w0 blk off L w')) := by
        obtain ⟨L, h1, h2, h3, h4⟩ := hI.out
        refine (HIN.out a b L wr (by omega) hlt h1 h4).mono ?_
        rintro e w' ⟨he, L', q1, q2, q3⟩
        refine ⟨he, L', q1.length.trans h1, h2.trans (q1.mono (Nat.zero_le _) hlt), ?_, q3⟩
        rw [HAB.out] at q1 q2 ⊢
        exact .step a (h3.out q1 (Nat.le_refl _)) q2
      have hnb : b + 20 ≤ 1073741824 := by omega
      clear hI hab HIN HSM
      go_wp2_with fail
      refine HC.out.mono ?_
      rintro e w2 ⟨rfl, hI⟩
      go_wp2
      go_roundw
      case rel => exact ⟨b, b + 20, rfl, by go_num, hlt, rfl, hI⟩
      case measure => simp [intOf]; omega
    · have hbd : decide (b ≤ n) = false := by simp; omega
      have HC : Hid (Calls Tryz.prog 163 #[.slice (some ⟨blk, off, none⟩) n cap, .int .i64 a, .int .i64 n, .func (.func g) #[] cb] wr fun e w' => e = .returned (.tuple #[]) ∧ Hid (∃ L a, L.length = n ∧ Bub c 0 n L0 L ∧ RT c 20 L a ∧ Srt c a n L ∧ a ≤ n ∧ n ≤ a + 20 ∧ SL w0 blk off L w')) := by
        obtain ⟨L, h1, h2, h3, h4⟩ := hI.out
        refine (HIN.out a n L wr han (Nat.le_refl _) h1 h4).mono ?_
        rintro e w' ⟨he, L', q1, q2, q3⟩
        have := HAB.out
        exact ⟨he, L', a, q1.length.trans h1, h2.trans (q1.mono (Nat.zero_le _) (Nat.le_refl _)), h3.out q1 (Nat.le_refl _), q2, han, by omega, q3⟩
      clear hI hab HIN HAB
      go_wp2_with fail
      refine HC.out.mono ?_
      rintro e w2 ⟨rfl, hI⟩
      clear HC
      go_wp2
      go_loopw [6] (fun x wr => ∃ s : Nat, x = .int .i64 s ∧ 0 < s ∧ s ≤ 2 * n + 20 ∧ Hid (∃ L a, L.length = n ∧ Bub c 0 n L0 L ∧ RT c s L a ∧ Srt c a n L ∧ a ≤ n ∧ n ≤ a + s ∧ SL w0 blk off L wr)) (fun x _ => n - (intOf x).toNat)
      case atStart => exact ⟨20, rfl, by omega, by omega, hI⟩
      case round =>
        obtain ⟨s, rfl, hs0, hsn, hI⟩ := hrel
        by_cases hlt : s < n
        · obtain ⟨s2, hs2⟩ : ∃ s2 : Nat, (2 : Int) * (s : Int) = s2 := ⟨2 * s, by omega⟩
          have hsz : (s : Int) < (n : Int) := by omega
          have hs2w : s2 ≤ 1073741824 := by omega
          have HS2 : Hid (s2 = s + s) := by show _ = _; omega
          go_wp2
          go_loopw [7, 8] (fun x y wr => ∃ a b : Nat, x = .int .i64 a ∧ y = .int .i64 b ∧ a ≤ n ∧ b = a + s2 ∧ Hid (∃ L f, L.length = n ∧ Bub c 0 n L0 L ∧ RT c s2 L a ∧ Runs c n s L f a ∧ SL w0 blk off L wr)) (fun _ y _ => n + s2 - (intOf y).toNat)
          case atStart =>
            obtain ⟨L, a, h1, h2, h3, h4, h5, h6, h7⟩ := hI.out
            obtain ⟨f, hf⟩ := h3.start h4 h6
            exact ⟨0, s2, rfl, rfl, Nat.zero_le _, by omega, L, f, h1, h2, .zero, hf, h7⟩
          case round =>
            clear hI
            obtain ⟨a, b, rfl, rfl, han, hab, hI⟩ := hrel
            have HAB := Hid.mk' hab
            obtain ⟨m, hm⟩ : ∃ m : Nat, (a : Int) + (s : Int) = m := ⟨a + s, by omega⟩
            by_cases hle : b ≤ n
            · have hbz : (b : Int) ≤ (n : Int) := by omega
              have HC : Hid (Calls Tryz.prog 164 #[.slice (some ⟨blk, off, none⟩) n cap, .int .i64 a, .int .i64 m, .int .i64 b, .func (.func g) #[] cb] wr fun e w' => e = .returned (.tuple #[]) ∧ Hid (∃ L f, L.length = n ∧ Bub c 0 n L0 L ∧ RT c s2 L b ∧ Runs c n s L f b ∧ SL w0 blk off L w')) := by
                obtain ⟨L, f, h1, h2, h3, h4, h5⟩ := hI.out
                have e2 := HS2.out
                have e3 := HAB.out
                obtain ⟨f', q1, q2, q3⟩ := h4.two hs0 (by omega)
                rw [show a + s = m by omega] at q1 q2 q3
                rw [show m + s = b by omega] at q2 q3
                refine (HSM.out a m b L wr (by omega) (by omega) hle h1 q1 q2 h5).mono ?_
                rintro e w' ⟨he, L', p1, p2, p3⟩
                refine ⟨he, L', f', p1.length.trans h1, h2.trans (p1.mono (Nat.zero_le _) hle), ?_, Runs.out p1 _ _ q3 (Nat.le_refl _), p3⟩
                rw [e3] at p1 p2 ⊢
                exact .step a (h3.out p1 (Nat.le_refl _)) p2
              have hmw : m ≤ 1073741824 := by omega
              have hbw : b + s2 ≤ 2147483648 := by omega
              clear hI hab HSM
              go_wp2_with fail
              refine HC.out.mono ?_
              rintro e w3 ⟨rfl, hI⟩
              go_wp2
              go_roundw
              case rel => exact ⟨b, b + s2, rfl, by go_num, hle, rfl, hI⟩
              case measure => simp [intOf]; omega
            · have hbd : decide (b ≤ n) = false := by simp; omega
              obtain ⟨s3, hs3⟩ : ∃ s3 : Nat, (s : Int) * 2 = s3 := ⟨s * 2, by omega⟩
              have hs3w : s3 ≤ 1073741824 := by omega
              have hs33 : s3 ≤ 2 * n + 20 := by omega
              have hs30 : 0 < s3 := by omega
              have HS3 : Hid (s3 = s2 ∧ s < s3) := ⟨by have := HS2.out; omega, by omega⟩
              have hmw : m ≤ 1073741824 := by omega
              by_cases hmn : m < n
              · have HC : Hid (Calls Tryz.prog 164 #[.slice (some ⟨blk, off, none⟩) n cap, .int .i64 a, .int .i64 m, .int .i64 n, .func (.func g) #[] cb] wr fun e w' => e = .returned (.tuple #[]) ∧ Hid (∃ L a, L.length = n ∧ Bub c 0 n L0 L ∧ RT c s3 L a ∧ Srt c a n L ∧ a ≤ n ∧ n ≤ a + s3 ∧ SL w0 blk off L w')) := by
                  obtain ⟨L, f, h1, h2, h3, h4, h5⟩ := hI.out
                  have e2 := HS2.out
                  have e3 := HAB.out
                  have e4 := HS3.out.1
                  obtain ⟨q1, q2⟩ := h4.last (by omega) (by omega)
                  rw [show a + s = m by omega] at q1 q2
                  refine (HSM.out a m n L wr (by omega) hmn (Nat.le_refl _) h1 q1 q2 h5).mono ?_
                  rintro e w' ⟨he, L', p1, p2, p3⟩
                  rw [e4]
                  exact ⟨he, L', a, p1.length.trans h1, h2.trans (p1.mono (Nat.zero_le _) (Nat.le_refl _)), h3.out p1 (Nat.le_refl _), p2, han, by omega, p3⟩
                have hmz : (m : Int) < (n : Int) := by omega
                clear hI hab HAB
                go_wp2_with fail
                refine HC.out.mono ?_
                rintro e w3 ⟨rfl, hI⟩
                go_wp2
                go_roundw
                case rel => exact ⟨s3, rfl, hs30, hs33, hI⟩
                case measure => simp [intOf]; have := HS3.out; omega
              · have hI2 : Hid (∃ L a, L.length = n ∧ Bub c 0 n L0 L ∧ RT c s3 L a ∧ Srt c a n L ∧ a ≤ n ∧ n ≤ a + s3 ∧ SL w0 blk off L wr) := by
                  obtain ⟨L, f, h1, h2, h3, h4, h5⟩ := hI.out
                  have e4 := HS3.out.1
                  rw [e4]
                  exact ⟨L, a, h1, h2, h3, h4.end (by omega), han, by have := HAB.out; omega, h5⟩
                have hmd : decide (m < n) = false := by simp; omega
                clear hI hab HAB
                go_wp2
                go_roundw
                case rel => exact ⟨s3, rfl, hs30, hs33, hI2⟩
                case measure => simp [intOf]; have := HS3.out; omega
        · have hsd : decide (s < n) = false := by simp; omega
          have HFIN : Hid (∃ L', Bub c 0 n L0 L' ∧ Srt c 0 n L' ∧ SL w0 blk off L' wr) := by
            obtain ⟨L, a, h1, h2, h3, h4, h5, h6, h7⟩ := hI.out
            exact ⟨L, h2, h3.whole h5 (by omega) h4, h7⟩
          clear hI HSM
          go_wp2
          go_end0
          exact ⟨rfl, HFIN.out⟩
set_option maxHeartbeats 1000000 in
theorem sortStable_any (c : Int → Int) (g : Nat) (cb : Array Value) (cf : Int → Int → Int) (hcf : ∀ x y, decide (cf x y < 0) = decide (c x < c y)) (eg : ∀ args w, (callFunc g args).run Tryz.prog w = .ok (.enter g args) w) (w : World) (blk off cap : Nat) (L0 : List Int) (R : RL w blk off L0) (hcm : CmpL g cb cf blk off L0.length w) (hs : L0.length ≤ 268435456) (S : SL w blk off L0 w) :
    Calls Tryz.prog 132 #[.slice (some ⟨blk, off, none⟩) L0.length cap, .func (.func g) #[] cb] w fun e w' => e = .returned (.tuple #[]) ∧ ∃ L', Bub c 0 L0.length L0 L' ∧ Srt c 0 L0.length L' ∧ SL w blk off L' w' := by
  have HC := Hid.mk' (stable_any c g cb cf hcf eg w blk off cap L0 R hcm hs w S)
  clear R hcm S hcf
  generalize L0.length = n at *
  go_enter Tryz.func132, Tryz.ntmps132
  go_wp2_with fail
  refine HC.out.mono ?_
  rintro e w1 ⟨rfl, hS⟩
  have HS := Hid.mk' hS
  clear hS
  go_wp2
  go_end0
  exact ⟨rfl, HS.out⟩
end Go.Proofs.YtoceaielclomcaaRRGreatDoor

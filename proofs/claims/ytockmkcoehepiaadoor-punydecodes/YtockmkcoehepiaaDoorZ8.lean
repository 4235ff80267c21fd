/-
  What is proved here: what puny.Encode answers at every list of at most 200 runes.
-/
import Derived.Test.YtockmkcoehepiaaDoorZ7
namespace Go.Proofs.YtockmkcoehepiaaDoor
open Go.RowKit Go.Shelf

/-- the number of the first rune that isn't right, or -1 -/
def wrongAt : List Int → Int
  | [] => -1
  | x :: l => if rgtB x then (if wrongAt l < 0 then -1 else wrongAt l + 1) else 0
theorem wrong_bd (l : List Int) : -1 ≤ wrongAt l ∧ wrongAt l < l.length := by
  induction l with
  | nil => simp [wrongAt]
  | cons x l ih =>
    unfold wrongAt
    (repeat' split) <;> simp <;> omega
theorem wrong_none {l : List Int} : wrongAt l < 0 ↔ ∀ x ∈ l, rgtB x = true := by
  induction l with
  | nil => simp [wrongAt]
  | cons x l ih =>
    unfold wrongAt
    by_cases h : rgtB x = true
    · rw [if_pos h]
      by_cases g : wrongAt l < 0
      · rw [if_pos g]
        have := ih.1 g
        simp [h]
        exact this
      · rw [if_neg g]
        simp [h]
        constructor
        · intro e; omega
        · intro e; exact absurd (ih.2 e) g
    · rw [if_neg h]
      simp [h]
theorem wrong_some {l : List Int} {k : Nat} (hk : k < l.length) (h1 : ∀ j, j < k → rgtB (l.getD j 0) = true) (h2 : rgtB (l.getD k 0) = false) : wrongAt l = k := by
  induction l generalizing k with
  | nil => simp at hk
  | cons x l ih =>
    unfold wrongAt
    cases k with
    | zero =>
      rw [if_neg (by simpa using h2)]; rfl
    | succ k =>
      have h0 := h1 0 (by omega)
      rw [if_pos (by simpa using h0)]
      have := ih (k := k) (by simpa using hk) (fun j hj => by simpa using h1 (j + 1) (by omega)) (by simpa using h2)
      rw [this, if_neg (by omega)]
      simp
set_option maxRecDepth 20000 in
set_option maxHeartbeats 1000000 in
theorem indexFunc_any (a : Option Addr) (cap : Nat) (l : List Int) (w : World) (h : RunesC w a cap l) (hl : l.length ≤ 200) :
    Calls Tryd.prog 50 #[.slice a l.length cap, .func (.func 51) #[] #[]] w fun e w' => e = .returned (.int .i64 (wrongAt l)) ∧ w = w' := by
  have hF : ∀ args w, (callFunc 51 args).run Tryd.prog w = .ok (.enter 51 args) w := enters_of Tryd.func51 (by kernel_rfl) rfl
  have HC := Hid.mk' h.2
  have HW : Hid (∀ r, _) := fun r => isWrong_any r w
  have HS : Hid (∀ k, k < l.length → (∀ j, j < k → rgtB (l.getD j 0) = true) → rgtB (l.getD k 0) = false → wrongAt l = k) := fun k hk h1 h2 => wrong_some hk h1 h2
  have HN : Hid ((∀ j, j < l.length → rgtB (l.getD j 0) = true) → wrongAt l = -1) := fun h => by
    have := wrong_bd l
    have := (wrong_none (l := l)).2 (fun x hx => by
      obtain ⟨j, hj, rfl⟩ := List.getElem_of_mem hx
      have := h j hj
      rwa [List.getD_eq_getElem?_getD, List.getElem?_eq_getElem hj] at this)
    omega
  generalize wrongAt l = R at *
  clear h
  go_enter Tryd.func50, Tryd.ntmps50
  go_wp2
  go_loop [8] (fun x => ∃ k : Nat, k ≤ l.length ∧ x = .int .i64 k ∧ Hid (∀ j, j < k → rgtB (l.getD j 0) = true)) (fun x => l.length - (intOf x).toNat)
  case atStart => exact ⟨0, Nat.zero_le _, rfl, fun j hj => by omega⟩
  case round =>
    obtain ⟨k, hk, rfl, HA⟩ := hrel
    by_cases hlt : k < l.length
    · obtain ⟨b, off, rfl, ck⟩ := HC.out k hlt
      have HK := Hid.mk' (HW.out (l.getD k 0))
      have HX : Hid (∀ x, l.getD k 0 = x → rgtB x = true → ∀ j, j < k + 1 → rgtB (l.getD j 0) = true) := fun x e g j hj => by
        rcases Nat.lt_or_ge j k with q | q
        · exact HA.out j q
        · obtain rfl : j = k := by omega
          rw [e]; exact g
      have HY : Hid (rgtB (l.getD k 0) = false → R = k) := fun g => HS.out k hlt HA.out g
      generalize hx : l.getD k 0 = x at *
      have HE := Hid.mk' (HX.out x rfl)
      clear hx HX
      have hklz : (k : Int) < (l.length : Int) := by omega
      cases hg : rgtB x
      · rw [hg] at HK
        have HR := Hid.mk' (HY.out hg)
        clear hg
        go_wp2_with fail
        refine HK.out.mono ?_
        rintro e w1 ⟨rfl, rfl⟩
        go_wp2
        go_ret
        exact ⟨ret_int HR.out.symm, rfl⟩
      · rw [hg] at HK
        have HE2 := Hid.mk' (HE.out hg)
        clear hg HE
        go_wp2_with fail
        refine HK.out.mono ?_
        rintro e w1 ⟨rfl, rfl⟩
        go_wp2
        go_round
        case rel => exact ⟨k + 1, by omega, by go_num, HE2⟩
        case measure => simp [intOf]; omega
    · obtain rfl : k = l.length := by omega
      have HR := Hid.mk' (HN.out HA.out)
      go_wp2
      go_ret
      exact ⟨ret_int HR.out.symm, rfl⟩
theorem fault_new {w wr : World} {k : Int} {q : Addr} (hbel : Below w.heap.size w wr) : Below w.heap.size w ((wr.alloc (.cells #[.int .i64 k, .iface 204 (.pointer (some q))] 66)).drew) ∧ Flt ((wr.alloc (.cells #[.int .i64 k, .iface 204 (.pointer (some q))] 66)).drew) (.iface 62 (.pointer (some ⟨wr.heap.size, 0, none⟩))) w.heap.size k q :=
  ⟨(hbel.alloc hbel.size _).drew, wr.heap.size, hbel.size, rfl, by simp, by simp⟩
set_option maxRecDepth 20000 in
set_option maxHeartbeats 1000000 in
/-- a rune isn't right -/
theorem encode_wrong (a : Option Addr) (cap : Nat) (l : List Int) (w : World) (p : Nat → Addr) (hg : Gl p w) (h : RunesC w a cap l) (hl : l.length ≤ 200) (hw : 0 ≤ wrongAt l) :
    Calls Tryd.prog 25 #[.slice a l.length cap] w fun e w' => ∃ v, e = .returned (.tuple #[.string ⟨#[]⟩, v]) ∧ Flt w' v w.heap.size (wrongAt l) (p 4) ∧ Below w.heap.size w w' := by
  have HI := Hid.mk' (indexFunc_any a cap l w h hl)
  have g4 := hg.g4
  generalize wrongAt l = k at *
  have hd : decide (0 ≤ k) = true := decide_eq_true hw
  clear h hg
  go_enter Tryd.func25, Tryd.ntmps25
  go_wp2_with fail
  refine HI.out.mono ?_
  rintro e w1 ⟨rfl, rfl⟩
  go_wp2
  go_region
  go_wp2
  go_ret2
  obtain ⟨r1, r2⟩ := fault_new (k := k) (q := p 4) (Below.refl w.heap.size w)
  exact ⟨_, rfl, r2, r1⟩
set_option maxRecDepth 20000 in
set_option maxHeartbeats 1000000 in
/-- there are too many runes -/
theorem encode_many (a : Option Addr) (cap : Nat) (l : List Int) (w : World) (p : Nat → Addr) (hg : Gl p w) (h : RunesC w a cap l) (hl : l.length ≤ 200) (hw : wrongAt l < 0) (hm : 120 < l.length) :
    Calls Tryd.prog 25 #[.slice a l.length cap] w fun e w' => ∃ v, e = .returned (.tuple #[.string ⟨#[]⟩, v]) ∧ Flt w' v w.heap.size 0 (p 3) ∧ Below w.heap.size w w' := by
  have HI := Hid.mk' (indexFunc_any a cap l w h hl)
  have g3 := hg.g3
  generalize wrongAt l = k at *
  have hd : decide (0 ≤ k) = false := decide_eq_false (by omega)
  clear h hg
  go_enter Tryd.func25, Tryd.ntmps25
  go_wp2_with fail
  refine HI.out.mono ?_
  rintro e w1 ⟨rfl, rfl⟩
  go_wp2
  go_region
  go_wp2
  go_ret2
  obtain ⟨r1, r2⟩ := fault_new (k := 0) (q := p 3) (Below.refl w.heap.size w)
  exact ⟨_, rfl, r2, r1⟩
end Go.Proofs.YtockmkcoehepiaaDoor

/-
  What is proved here: the iterator that faults answers: it tells the ranges at fault, each with its named error, in order; Check's answer.
-/
import Derived.RangeFuncNested
import Derived.RangeFuncBound
import Derived.RangeFuncCalls
import Derived.RangeFuncLeaves
import Derived.Shelf.Abstract
import Derived.Shelf.RegionOpen
import Derived.WalkKit
import Derived.OwnWalkIn
import Derived.TacticsInMore
import Derived.LoopNIn
import Derived.LoopIn
import Derived.Test.YtcklfcoobccgcaaDoorR1
namespace Go.Proofs.YtcklfcoobccgcaaDoor
open Go.RowKit Go.Shelf
attribute [local go_sem] Oper.semAt_some

theorem abides {β : Type} {B : Nat} {J : β → World → Prop} (hJ : AbidesFrom B J) {s : β} {W W' : World} (h : J s W) (hb : Below W.heap.size W W') : J s W' :=
  hJ s W W' none h ⟨hb.os, hb.tape, hb.output, hb.size, fun k hk _ => hb.block k hk⟩ (fun r e => by cases e)
/-- a pair that faults tells -/
def encF (p : Nat → Addr) (x : Nat × Nat) : Array Value := #[.int .i64 (x.1 : Int), .iface 117 (.pointer (some (p x.2)))]

set_option maxRecDepth 100000 in
set_option maxHeartbeats 2000000 in
theorem faults1_full (n : Nat) (hn : 1 ≤ n) (l Bs : Nat) (sv : Value) (L : List Rg) (p : Nat → Addr) (J Jx : List (Nat × Nat) → World → Prop) (w : World)
    (hBs : w.cell? ⟨Bs, 0, none⟩ = some sv) (hT : Tab w sv L) (hg : Gl p w) (hL : L.length ≤ 2147483648) (hbig : 2000 < L.length) (W : World) (hW : Below w.heap.size w W)
    (hY : ∀ pre x W1, J pre W1 → pre.length < L.length + 1 → YieldAt Fence.wide (n - 1) Tryd.prog l (encF p x) W1 fun e W' =>
      (e = .returned (.bool true) ∧ J (pre ++ [x]) W' ∧ Below w.heap.size W1 W') ∨ (e = .returned (.bool false) ∧ Jx (pre ++ [x]) W'))
    (h0 : J [] W) :
    CallsIn Fence.wide n Tryd.prog 64 #[.func (.yield l) #[] #[], .pointer (some ⟨Bs, 0, none⟩)] W fun e W' => (∃ v, e = .returned v) ∧
      ((∃ ys, ys = faultsM L ∧ J ys W') ∨ (∃ pre, (pre <+: faultsM L ∧ pre ≠ []) ∧ Jx pre W')) := by
  have hf : faultsM L = [(0, 18)] := by unfold faultsM; rw [if_pos hbig]
  rw [hf]
  have hBs' := (hW.cell (p := ⟨Bs, 0, none⟩) (lt_of_cell hBs)).trans hBs
  have g18 := ((hg.below hW).g18)
  obtain ⟨a, cap, rfl, -⟩ := hT
  obtain ⟨fn, tmps, assign, body, hy, hR⟩ := hY [] (0, 18) W h0 (by simp)
  unfold encF at hy
  dsimp only at hy
  change (Instr.yield l #[Value.int .i64 0, Value.iface 117 (Value.pointer (some (p 18)))]).run Tryd.prog W = _ at hy
  clear hf hY hg hW hBs
  refine callsIn_of_wp Tryd.func64 rfl trivial ?_ rfl
  simp only [Tryd.ntmps64, List.size_toArray, List.length_cons, List.length_nil, Nat.reduceAdd, Nat.reduceSub, Array.replicate_succ, Array.replicate_zero, List.push_toArray, List.append_toArray, List.nil_append, List.cons_append]
  gi_wp2
  refine hR.mono ?_
  rintro e W3 (⟨rfl, hJ3, hk3⟩ | ⟨rfl, hJx3⟩)
  · gi_wp2
    refine bodyPost_ret (results_none rfl _ _ _) rfl ?_
    exact ⟨⟨_, rfl⟩, .inl ⟨_, rfl, hJ3⟩⟩
  · gi_wp2
    refine bodyPost_ret (results_none rfl _ _ _) rfl ?_
    exact ⟨⟨_, rfl⟩, .inr ⟨_, ⟨List.prefix_refl _, by simp⟩, hJx3⟩⟩

theorem yield_abides {β : Type} {B : Nat} {J : β → World → Prop} (hJ : AbidesFrom B J) {s : β} {W W' : World} {p : Prop} (h : J s W) (hb : Below W.heap.size W W') (hp : p) : J s W' ∧ p := ⟨abides hJ h hb, hp⟩
set_option maxRecDepth 100000 in
set_option maxHeartbeats 2000000 in
theorem faults1_in (n : Nat) (hn : 1 ≤ n) (l Bs : Nat) (sv : Value) (L : List Rg) (p : Nat → Addr) (J Jx : List (Nat × Nat) → World → Prop) (w : World)
    (hBs : w.cell? ⟨Bs, 0, none⟩ = some sv) (hT : Tab w sv L) (hg : Gl p w) (hbig : L.length ≤ 2000) (W : World) (hW : Below w.heap.size w W) (hJ : AbidesFrom W.heap.size J)
    (hY : ∀ pre x W1, J pre W1 → pre.length < L.length + 1 → YieldAt Fence.wide (n - 1) Tryd.prog l (encF p x) W1 fun e W' =>
      (e = .returned (.bool true) ∧ J (pre ++ [x]) W' ∧ Below w.heap.size W1 W') ∨ (e = .returned (.bool false) ∧ Jx (pre ++ [x]) W'))
    (h0 : J [] W) :
    CallsIn Fence.wide n Tryd.prog 64 #[.func (.yield l) #[] #[], .pointer (some ⟨Bs, 0, none⟩)] W fun e W' => (∃ v, e = .returned v) ∧
      ((∃ ys, ys = faultsM L ∧ J ys W') ∨ (∃ pre, (pre <+: faultsM L ∧ pre ≠ []) ∧ Jx pre W')) := by
  have hf : faultsM L = faultsTo L L.length := by unfold faultsM; rw [if_neg (by omega)]
  rw [hf]
  obtain ⟨a, cap, hsv, -⟩ := id hT
  have HB : Hid (∀ W', Below w.heap.size w W' → W'.cell? ⟨Bs, 0, none⟩ = some (.slice a L.length cap)) := fun W' hW' => by rw [← hsv]; exact (hW'.cell (p := ⟨Bs, 0, none⟩) (lt_of_cell hBs)).trans hBs
  have HF : Hid (∀ W' i, Below w.heap.size w W' → i < L.length → Calls Tryd.prog 65 #[.slice a L.length cap, .int .i64 i] W' fun e w' => e = .returned (nam p (codeAt L i)) ∧ Below W'.heap.size W' w') := fun W' i hW' hi => by
    rw [← hsv]; exact faultOf_any sv L i W' p (hg.below hW') (hT.below hW') hi (by omega)
  have HJ := Hid.mk' hJ
  have HY := Hid.mk' hY
  have HL : Hid (∀ k, k ≤ L.length → (faultsTo L k).length < L.length + 1) := fun k hk => by
    have : (faultsTo L k).length ≤ k := by unfold faultsTo; rw [List.length_map]; exact Nat.le_trans (List.length_filter_le _ _) (by simp)
    omega
  have hBs' := HB.out W hW
  have HW := Hid.mk' hW
  clear hf hY hg hBs hT hJ hW hsv
  refine callsIn_of_wp Tryd.func64 rfl trivial ?_ rfl
  simp only [Tryd.ntmps64, List.size_toArray, List.length_cons, List.length_nil, Nat.reduceAdd, Nat.reduceSub, Array.replicate_succ, Array.replicate_zero, List.push_toArray, List.append_toArray, List.nil_append, List.cons_append]
  gi_wp2
  gi_loopw [13] (fun i wr => ∃ k : Nat, k ≤ L.length ∧ i = .int .i64 k ∧ J (faultsTo L k) wr ∧ Below w.heap.size w wr)
    (fun i _ => L.length - (intOf i).toNat)
  case atStart => exact ⟨0, Nat.zero_le _, rfl, h0, HW.out⟩
  case round =>
    obtain ⟨k, hk, rfl, hJs, hnx⟩ := hrel
    by_cases hlt : k < L.length
    · have hb := HB.out wr hnx
      have hsucc := faultsTo_succ L k
      have HJS := Hid.mk' hJs
      clear hJs
      have HF1 := Hid.mk' (HF.out wr k hnx hlt)
      obtain ⟨c, hc⟩ : ∃ c, codeAt L k = c := ⟨_, rfl⟩
      rw [hc] at hsucc HF1
      clear hc
      by_cases h0c : c = 0
      · subst h0c
        rw [if_pos rfl, List.append_nil] at hsucc
        change Hid (Calls Tryd.prog 65 #[.slice a L.length cap, .int .i64 k] wr fun e w' => e = .returned .nilIface ∧ Below wr.heap.size wr w') at HF1
        gi_wp2_with (refine ⟨trivial, ?_⟩; gi_at_call 65; refine (callsIn_wide.2 HF1.out).mono ?_; rintro e W1 ⟨rfl, hbel⟩)
        refine ⟨fun _ h => (by cases h), ?_⟩
        gi_wp2
        go_roundw
        case rel => exact ⟨k + 1, by omega, by simp, by rw [hsucc]; exact abides HJ.out HJS.out hbel, hnx.trans (hbel.mono hnx.size)⟩
        case measure => simp [intOf]; omega
      · rw [if_neg h0c] at hsucc
        have hnam : nam p c = .iface 117 (.pointer (some (p c))) := by unfold nam; rw [if_neg h0c]
        rw [hnam] at HF1
        have HYk : Hid (∀ W1, Below wr.heap.size wr W1 → _) := fun W1 hb => HY.out _ (k, c) W1 (abides HJ.out HJS.out hb) (HL.out k hk)
        gi_wp2_with (refine ⟨trivial, ?_⟩; gi_at_call 65; refine (callsIn_wide.2 HF1.out).mono ?_; rintro e W1 ⟨rfl, hbel⟩; obtain ⟨fn, tmps, assign, body, hy, hR⟩ := HYk.out W1 hbel; unfold encF at hy; dsimp only at hy; have hpre := faultsTo_prefix L (k + 1) L.length (by omega))
        refine hR.mono ?_
        rintro e W3 (⟨rfl, hJ3, hk3⟩ | ⟨rfl, hJx3⟩)
        · gi_wp2
          go_roundw
          case rel => exact ⟨k + 1, by omega, by simp, by rw [hsucc]; exact hJ3, (hnx.trans (hbel.mono hnx.size)).trans hk3⟩
          case measure => simp [intOf]; omega
        · gi_wp2
          refine bodyPost_ret (results_none rfl _ _ _) rfl ?_
          exact ⟨⟨_, rfl⟩, .inr ⟨_, ⟨by rw [← hsucc]; exact hpre, by simp⟩, hJx3⟩⟩
    · obtain rfl : k = L.length := by omega
      gi_wp2
      go_end0
      exact ⟨⟨_, rfl⟩, .inl ⟨_, rfl, hJs⟩⟩
/-- WHAT faults ANSWERS, GONE THROUGH: it tells faultsM, or as many of them as are wanted. -/
theorem faults_stops (n : Nat) (hn : 1 ≤ n) (Bs : Nat) (sv : Value) (L : List Rg) (p : Nat → Addr) (w : World)
    (hBs : w.cell? ⟨Bs, 0, none⟩ = some sv) (hT : Tab w sv L) (hg : Gl p w) (hL : L.length ≤ 2147483648) :
    SeqStopsK Fence.wide n Tryd.prog 64 #[.pointer (some ⟨Bs, 0, none⟩)] (encF p) (Below w.heap.size) (fun ys => ys = faultsM L) (fun pre => pre <+: faultsM L ∧ pre ≠ []) (L.length + 1) w := fun l J Jx W hW hJ _ hY h0 => by
  by_cases hbig : 2000 < L.length
  · exact faults1_full n hn l Bs sv L p J Jx w hBs hT hg hL hbig W hW hY h0
  · exact faults1_in n hn l Bs sv L p J Jx w hBs hT hg (by omega) W hW hJ hY h0
set_option maxHeartbeats 1000000 in
theorem faults_any (a : Option Addr) (n c : Nat) (w : World) :
    Calls Tryd.prog 61 #[.slice a n c] w fun e w' => e = .returned (.func (.func 64) #[] #[.pointer (some ⟨w.heap.size, 0, none⟩)]) ∧ w' = w.alloc (.cells #[.slice a n c] 22) := by
  go_enter Tryd.func61, Tryd.ntmps61
  go_wp2
  go_ret
  exact ⟨rfl, rfl⟩
end Go.Proofs.YtcklfcoobccgcaaDoor

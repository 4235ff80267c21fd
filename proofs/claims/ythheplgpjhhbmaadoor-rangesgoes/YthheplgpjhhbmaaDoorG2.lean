/-
  What is proved here: the iterator that All answers: it tells each rune with its value, in order, or as many as are wanted.
-/
import Derived.Test.YthheplgpjhhbmaaDoorG1
namespace Go.Proofs.YthheplgpjhhbmaaDoor
open Go.RowKit Go.Shelf
attribute [local go_sem] Oper.semAt_some

/-- the first j runes of a range, with its value -/
def runesTo (r : Rg) (j : Nat) : List (Int × Int) := (List.range j).map fun (i : Nat) => (r.lo + (i : Int), r.val)
/-- the runes of the first k ranges -/
def allTo (l : List Rg) (k : Nat) : List (Int × Int) := (l.take k).flatMap fun r => runesTo r (r.hi - r.lo + 1).toNat
def allL (l : List Rg) : List (Int × Int) := allTo l l.length
theorem runesTo_succ (r : Rg) (j : Nat) : runesTo r (j + 1) = runesTo r j ++ [(r.lo + (j : Int), r.val)] := by simp [runesTo, List.range_succ]
theorem runesTo_len (r : Rg) (j : Nat) : (runesTo r j).length = j := by simp [runesTo]
theorem runesTo_prefix (r : Rg) (j k : Nat) (h : j ≤ k) : runesTo r j <+: runesTo r k := by
  induction k with
  | zero => obtain rfl : j = 0 := by omega
            exact List.prefix_refl _
  | succ k ih =>
    rcases Nat.lt_or_ge k j with g | g
    · obtain rfl : j = k + 1 := by omega
      exact List.prefix_refl _
    · rw [runesTo_succ]; exact (ih g).trans (List.prefix_append _ _)
theorem allTo_succ (l : List Rg) (k : Nat) (h : k < l.length) : allTo l (k + 1) = allTo l k ++ runesTo (l.getD k default) ((l.getD k default).hi - (l.getD k default).lo + 1).toNat := by
  unfold allTo
  have e : l.take (k + 1) = l.take k ++ [l.getD k default] := by
    rw [List.take_succ_eq_append_getElem h]; simp [List.getD, List.getElem?_eq_getElem h]
  rw [e, List.flatMap_append]; simp
theorem allTo_prefix (l : List Rg) (k : Nat) (h : k ≤ l.length) : allTo l k <+: allL l := by
  unfold allL
  have : ∀ m, k ≤ m → m ≤ l.length → allTo l k <+: allTo l m := by
    intro m
    induction m with
    | zero => intro h1 _; obtain rfl : k = 0 := by omega
              exact List.prefix_refl _
    | succ m ih =>
      intro h1 h2
      rcases Nat.lt_or_ge m k with g | g
      · obtain rfl : k = m + 1 := by omega
        exact List.prefix_refl _
      · rw [allTo_succ l m (by omega)]; exact (ih g (by omega)).trans (List.prefix_append _ _)
  exact this _ h (Nat.le_refl _)
theorem part_prefix (l : List Rg) (k j : Nat) (h : k < l.length) (hj : j ≤ ((l.getD k default).hi - (l.getD k default).lo + 1).toNat) : allTo l k ++ runesTo (l.getD k default) j <+: allL l := by
  have h1 := allTo_prefix l (k + 1) (by omega)
  rw [allTo_succ l k h] at h1
  exact (List.prefix_append_right_inj _ |>.2 (runesTo_prefix _ _ _ hj)).trans h1
theorem prefix_len_lt {α : Type} {a b : List α} {x : α} (h : a ++ [x] <+: b) : a.length < b.length := by
  have := h.length_le; simp at this; omega
/-- all cells but those of some blocks are as they were -/
def KeepC (S : Nat → Prop) (W W' : World) : Prop := ∀ a v, ¬ S a.block → W.cell? a = some v → W'.cell? a = some v
theorem keepC_t {S : Nat → Prop} {A B C : World} (h : KeepC S A B) (k : KeepC S B C) : KeepC S A C := fun a v hs hc => k a v hs (h a v hs hc)
theorem keepC_b {S : Nat → Prop} {w : World} (W : World) (l : Nat) (o o' : Obj) (_ : w.heap.size ≤ l) (h : W.heap[l]? = some o) (hc : o.isCells = false) (_ : o.isWalk = false) : KeepC S W (W.putObj l o') :=
  fun _ _ _ hv => cell_kept hv (grownBy_putObj' W l o') (fun r e => by cases e; exact ⟨o, h, hc⟩)
theorem keepC_below {S : Nat → Prop} {W W' : World} (h : Below W.heap.size W W') : KeepC S W W' := fun a v _ hv => by
  obtain ⟨b, o, s⟩ := a
  have hs : s = none := World.cell?_spot hv
  subst hs
  exact (h.cell (p := ⟨b, o, none⟩) (lt_of_cell hv)).trans hv
theorem Tab.keepC {S : Nat → Prop} {w w' : World} {v : Value} {l : List Rg} (h : Tab w v l) (hk : KeepC S w w') (hS : ∀ b, v.ownBlock = some b → ¬ S b) : Tab w' v l := by
  obtain ⟨a, cap, rfl, h⟩ := h
  refine ⟨a, cap, rfl, fun j hj => ?_⟩
  obtain ⟨b, off, rfl, hc⟩ := h j hj
  refine ⟨b, off, rfl, fun i hi => ?_⟩
  have hc1 := hc i hi
  obtain ⟨u, hu⟩ : ∃ u, (l.getD j default).cells[i]? = some u := by
    rcases (show i = 0 ∨ i = 1 ∨ i = 2 by omega) with rfl | rfl | rfl <;> exact ⟨_, rfl⟩
  rw [hu] at hc1 ⊢
  exact hk _ _ (hS b rfl) hc1
def encA (x : Int × Int) : Array Value := #[.int .i32 x.1, .int .i64 x.2]
set_option maxRecDepth 100000 in
set_option maxHeartbeats 4000000 in
theorem all1_in (n : Nat) (hn : 1 ≤ n) (l Bs : Nat) (a : Option Addr) (cap : Nat) (L : List Rg) (S : Nat → Prop) (J Jx : List (Int × Int) → World → Prop) (w : World)
    (hBs : w.cell? ⟨Bs, 0, none⟩ = some (.slice a L.length cap)) (hT : Tab w (.slice a L.length cap) L) (hSt : ∀ b, (Value.slice a L.length cap).ownBlock = some b → ¬ S b) (hSn : ∀ b, S b → b < w.heap.size)
    (hL : L.length ≤ 2147483648) (hM : Mays L) (W : World) (hW : Below w.heap.size w W) (hJ : AbidesFrom W.heap.size J)
    (hY : ∀ pre x W1, J pre W1 → pre.length < (allL L).length → YieldAt Fence.wide (n - 1) Tryd.prog l (encA x) W1 fun e W' =>
      (e = .returned (.bool true) ∧ J (pre ++ [x]) W' ∧ (KeepC S W1 W' ∧ W1.heap.size ≤ W'.heap.size)) ∨ (e = .returned (.bool false) ∧ Jx (pre ++ [x]) W'))
    (h0 : J [] W) :
    CallsIn Fence.wide n Tryd.prog 32 #[.func (.yield l) #[] #[], .pointer (some ⟨Bs, 0, none⟩)] W fun e W' => (∃ v, e = .returned v) ∧
      ((∃ ys, ys = allL L ∧ J ys W') ∨ (∃ pre, pre <+: allL L ∧ Jx pre W')) := by
  have hBs' := (hW.cell (p := ⟨Bs, 0, none⟩) (lt_of_cell hBs)).trans hBs
  have HT := Hid.mk' (hT.below hW)
  have HJ := Hid.mk' hJ
  have HY := Hid.mk' hY
  have HM := Hid.mk' hM
  have HS := Hid.mk' hSt
  have HSn : Hid (∀ b, S b → b < W.heap.size) := fun b hb => Nat.lt_of_lt_of_le (hSn b hb) hW.size
  have hall : Hid (allTo L L.length = allL L) := rfl
  clear hBs hT hSt hSn hM hW hJ hY
  refine callsIn_of_wp Tryd.func32 rfl trivial ?_ rfl
  simp only [Tryd.ntmps32, List.size_toArray, List.length_cons, List.length_nil, Nat.reduceAdd, Nat.reduceSub, Array.replicate_succ, Array.replicate_zero, List.push_toArray, List.append_toArray, List.nil_append, List.cons_append]
  gi_wp2
  gi_loopw [8] (fun i wr => ∃ k : Nat, k ≤ L.length ∧ i = .int .i64 k ∧ J (allTo L k) wr ∧ (KeepC S W wr ∧ W.heap.size ≤ wr.heap.size))
    (fun i _ => L.length - (intOf i).toNat)
  case atStart => exact ⟨0, Nat.zero_le _, rfl, h0, fun _ _ _ h => h, Nat.le_refl _⟩
  case round =>
    obtain ⟨wo, hwo⟩ : ∃ wo, wo = wr := ⟨_, rfl⟩
    subst hwo
    obtain ⟨k, hk, rfl, hJs, hkp, hws⟩ := hrel
    by_cases hlt : k < L.length
    · obtain ⟨a', c', e, htt⟩ := HT.out.keepC hkp HS.out
      obtain ⟨rfl, rfl⟩ : a = a' ∧ cap = c' := by simpa using e
      obtain ⟨b, off, rfl, hc⟩ := htt k hlt
      obtain ⟨d0, d1, d2⟩ := three_of (w := wo) (b := b) (o := off + k * 3) (r := L.getD k default) hc
      obtain ⟨m1, m2, m3, m4, m5⟩ := ((L.getD k default).may_iff).1 (HM.out k hlt)
      have HJS := Hid.mk' hJs
      have HP : Hid (∀ j, j ≤ ((L.getD k default).hi - (L.getD k default).lo + 1).toNat → allTo L k ++ runesTo (L.getD k default) j <+: allL L) := fun j hj => part_prefix L k j hlt hj
      have HSu : Hid (allTo L (k + 1) = allTo L k ++ runesTo (L.getD k default) ((L.getD k default).hi - (L.getD k default).lo + 1).toNat) := allTo_succ L k hlt
      clear hc htt e hJs
      generalize L.getD k default = q at *
      have HN : Hid (¬ S wo.heap.size) := fun h => by have := HSn.out _ h; omega
      have HW1 : Hid (KeepC S W (wo.alloc (.cells #[.int .i32 q.lo, .int .i32 q.hi, .int .i64 q.val] 37)) ∧ W.heap.size ≤ (wo.alloc (.cells #[.int .i32 q.lo, .int .i32 q.hi, .int .i64 q.val] 37)).heap.size) :=
        ⟨keepC_t hkp (keepC_below ((Below.refl _ wo).alloc (Nat.le_refl _) _)), by simp; omega⟩
      have HJ1 : Hid (J (allTo L k ++ runesTo q 0) (wo.alloc (.cells #[.int .i32 q.lo, .int .i32 q.hi, .int .i64 q.val] 37))) := by
        show J _ _
        have e0 : allTo L k ++ runesTo q 0 = allTo L k := by simp [runesTo]
        rw [e0]
        exact abides HJ.out HJS.out ((Below.refl _ wo).alloc (Nat.le_refl _) _)
      gi_wp2
      gi_loopw [5] (fun x wi => ∃ j : Nat, x = .int .i32 (q.lo + (j : Int)) ∧ j ≤ (q.hi - q.lo + 1).toNat ∧ Hid (J (allTo L k ++ runesTo q j) wi) ∧ Hid (KeepC S W wi ∧ W.heap.size ≤ wi.heap.size) ∧ Hid (wi.cell? ⟨wo.heap.size, 0, none⟩ = some (.int .i32 q.lo) ∧ wi.cell? ⟨wo.heap.size, 1, none⟩ = some (.int .i32 q.hi) ∧ wi.cell? ⟨wo.heap.size, 2, none⟩ = some (.int .i64 q.val)))
        (fun x _ => (q.hi + 1 - intOf x).toNat)
      case atStart => exact ⟨0, by simp, Nat.zero_le _, HJ1, HW1, Hid.mk' (by simp)⟩
      case round =>
        obtain ⟨j, rfl, hj, hJi, hKi, hci⟩ := hrel
        obtain ⟨c0, c1, c2⟩ := hci.out
        by_cases hjl : q.lo + (j : Int) ≤ q.hi
        · have hpre := HP.out (j + 1) (by omega)
          rw [runesTo_succ, ← List.append_assoc] at hpre
          have HPr := Hid.mk' hpre
          obtain ⟨fn, tmps, assign, body, hy, hR⟩ := HY.out _ (q.lo + (j : Int), q.val) wr hJi.out (prefix_len_lt hpre)
          unfold encA at hy
          dsimp only at hy
          clear hpre
          gi_wp2
          refine hR.mono ?_
          rintro e W3 (⟨rfl, hJ3, hk3⟩ | ⟨rfl, hJx3⟩)
          · have hJ4 : Hid (J (allTo L k ++ runesTo q (j + 1)) W3) := by show J _ _; rw [runesTo_succ, ← List.append_assoc]; exact hJ3
            have hc3 : Hid (W3.cell? ⟨wo.heap.size, 0, none⟩ = some (.int .i32 q.lo) ∧ W3.cell? ⟨wo.heap.size, 1, none⟩ = some (.int .i32 q.hi) ∧ W3.cell? ⟨wo.heap.size, 2, none⟩ = some (.int .i64 q.val)) := ⟨hk3.1 _ _ HN.out c0, hk3.1 _ _ HN.out c1, hk3.1 _ _ HN.out c2⟩
            have hK3 : Hid (KeepC S W W3 ∧ W.heap.size ≤ W3.heap.size) := ⟨keepC_t hKi.out.1 hk3.1, Nat.le_trans hKi.out.2 hk3.2⟩
            clear hJ3
            gi_wp2
            go_roundw
            case rel => exact ⟨j + 1, by rw [show q.lo + ((j + 1 : Nat) : Int) = q.lo + (j : Int) + 1 by omega], by omega, hJ4, hK3, hc3⟩
            case measure => simp [intOf]; omega
          · gi_wp2
            refine bodyPost_ret (results_none rfl _ _ _) rfl ?_
            exact ⟨⟨_, rfl⟩, .inr ⟨_, HPr.out, hJx3⟩⟩
        · obtain rfl : j = (q.hi - q.lo + 1).toNat := by omega
          gi_wp2
          go_roundw
          case rel => exact ⟨k + 1, by omega, by simp, by rw [HSu.out]; exact hJi.out, hKi.out⟩
          case measure => simp [intOf]; omega
    · obtain rfl : k = L.length := by omega
      gi_wp2
      go_end0
      exact ⟨⟨_, rfl⟩, .inl ⟨_, hall.out, hJs⟩⟩
/-- WHAT All ANSWERS, GONE THROUGH -/
theorem all_stops (n : Nat) (hn : 1 ≤ n) (Bs : Nat) (a : Option Addr) (cap : Nat) (L : List Rg) (S : Nat → Prop) (w : World)
    (hBs : w.cell? ⟨Bs, 0, none⟩ = some (.slice a L.length cap)) (hT : Tab w (.slice a L.length cap) L) (hSt : ∀ b, (Value.slice a L.length cap).ownBlock = some b → ¬ S b) (hSn : ∀ b, S b → b < w.heap.size)
    (hL : L.length ≤ 2147483648) (hM : Mays L) :
    SeqStopsK Fence.wide n Tryd.prog 32 #[.pointer (some ⟨Bs, 0, none⟩)] encA (fun W W' => KeepC S W W' ∧ W.heap.size ≤ W'.heap.size) (fun ys => ys = allL L) (fun pre => pre <+: allL L) (allL L).length w := fun l J Jx W hW hJ _ hY h0 =>
  all1_in n hn l Bs a cap L S J Jx w hBs hT hSt hSn hL hM W hW hJ hY h0
end Go.Proofs.YthheplgpjhhbmaaDoor

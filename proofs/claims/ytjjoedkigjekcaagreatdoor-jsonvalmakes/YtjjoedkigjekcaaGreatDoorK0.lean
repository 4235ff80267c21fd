/-
  What is proved here: slices of bytes of a call's own that are handed on from call to call.
-/
import Derived.Test.YtjjoedkigjekcaaGreatDoorMJ
import Derived.Deep.AppendLies
import Derived.Lib.AppendStr
namespace Go.Proofs.YtjjoedkigjekcaaGreatDoor
open Go.RowKit

def bytesV (bs : List UInt8) : List Value := bs.map fun c => Value.int .u8 c.toNat
theorem bytesV_len (bs : List UInt8) : (bytesV bs).length = bs.length := by simp [bytesV]
theorem bytesV_append (a b : List UInt8) : bytesV (a ++ b) = bytesV a ++ bytesV b := by simp [bytesV]
theorem bytesV_one (bs : List UInt8) : ∀ u ∈ bytesV bs, u.oneCell' = true := by
  intro u hu
  obtain ⟨z, _, rfl⟩ := List.mem_map.1 hu
  rfl
/-- bytes that a slice of the call's own holds -/
def BR (B : Nat) (w : World) (v : Value) (bs : List UInt8) : Prop := w.ownsRow B 5 1 v bs.length (bytesV bs)
/-- from one world and slice to another: what else lay is as it was -/
structure Goes (w : World) (v : Value) (w' : World) (v' : Value) : Prop where
  g : w.grownBy w' v.ownBlock
  o : v'.ownBlock = v.ownBlock ∨ ∃ k, v'.ownBlock = some k ∧ w.heap.size ≤ k
theorem Goes.refl (w : World) (v : Value) : Goes w v w v := ⟨⟨rfl, rfl, rfl, Nat.le_refl _, fun _ _ _ => rfl⟩, .inl rfl⟩
theorem Goes.trans {w w1 w2 : World} {v v1 v2 : Value} (h : Goes w v w1 v1) (h' : Goes w1 v1 w2 v2) : Goes w v w2 v2 := by
  refine ⟨⟨h'.g.os.trans h.g.os, h'.g.tape.trans h.g.tape, h'.g.output.trans h.g.output, Nat.le_trans h.g.size h'.g.size, fun k hk hne => ?_⟩, ?_⟩
  · refine (h'.g.block k (Nat.lt_of_lt_of_le hk h.g.size) (fun e => ?_)).trans (h.g.block k hk hne)
    rcases h.o with o | ⟨j, o, hj⟩
    · exact hne (e.trans o)
    · rw [o] at e
      have : k = j := by simpa using e
      omega
  · rcases h'.o with o' | ⟨j, o', hj⟩
    · rcases h.o with o | ⟨j, o, hj⟩
      · exact .inl (o'.trans o)
      · exact .inr ⟨j, o'.trans o, hj⟩
    · exact .inr ⟨j, o', Nat.le_trans h.g.size hj⟩
theorem Goes.alloc {w w1 : World} {v v1 : Value} (h : Goes w v w1 v1) (o : Obj) : Goes w v (w1.alloc o) v1 := by
  refine h.trans ⟨⟨rfl, rfl, rfl, by simp, fun k hk _ => Below.heap_alloc _ _ _ hk⟩, .inl rfl⟩
theorem Goes.drew {w w1 : World} {v v1 : Value} (h : Goes w v w1 v1) : Goes w v w1.drew v1 :=
  h.trans ⟨⟨rfl, rfl, rfl, Nat.le_refl _, fun _ _ _ => rfl⟩, .inl rfl⟩
/-- an append -/
theorem Goes.append {w w1 w2 : World} {v v1 : Value} {n c g : Nat} (h : Goes w v w1 v1) (hg : w1.grownBy w2 v1.ownBlock) (ho : v1.ownBlock = some g ∨ g = w1.heap.size) : Goes w v w2 (.slice (some ⟨g, 0, none⟩) n c) := by
  refine h.trans ⟨hg, ?_⟩
  rcases ho with o | o
  · exact .inl o.symm
  · exact .inr ⟨g, rfl, by omega⟩
theorem Goes.below {w w' : World} {v v' : Value} {B : Nat} (h : Goes w v w' v') (hB : B ≤ w.heap.size) (hv : ∀ k, v.ownBlock = some k → B ≤ k) : Below B w w' :=
  ⟨h.g.os, h.g.tape, h.g.output, h.g.size, fun k hk => h.g.block k (by omega) (fun e => by have := hv k e.symm; omega)⟩
theorem Goes.cell {w w' : World} {v v' : Value} (h : Goes w v w' v') {a : Addr} {x : Value} (hc : w.cell? a = some x) (hne : some a.block ≠ v.ownBlock) : w'.cell? a = some x := h.g.cell hc hne
theorem BR.nil (B : Nat) (w : World) : BR B w (.slice none 0 0) [] := World.ownsRow_nil _ _ _ _
theorem BR.base {B : Nat} {w : World} {v : Value} {bs : List UInt8} (h : BR B w v bs) : ∀ k, v.ownBlock = some k → B ≤ k := fun k e => (World.ownsRow.lt h k e).1
theorem BR.lt {B : Nat} {w : World} {v : Value} {bs : List UInt8} (h : BR B w v bs) : ∀ k, v.ownBlock = some k → k < w.heap.size := fun k e => (World.ownsRow.lt h k e).2
theorem BR.alloc {B : Nat} {w : World} {v : Value} {bs : List UInt8} (h : BR B w v bs) (o : Obj) : BR B (w.alloc o) v bs := World.ownsRow.alloc h o
/-- what a slice of bytes looks like -/
theorem BR.form {B : Nat} {w : World} {v : Value} {bs : List UInt8} (h : BR B w v bs) : ∃ a c, v = .slice a bs.length c := by
  rcases h.2 with ⟨e, e2⟩ | ⟨g, cap, cur, e, _⟩
  · exact ⟨none, 0, by rw [e, e2]⟩
  · exact ⟨_, _, e⟩
theorem conv_own {w : World} {B : Nat} {v : Value} {bs : List Int} {n : Nat} (hn : bs.length = n) (h : w.ownsRow B 5 1 v n (bs.map (Value.int .u8))) :
    (convert 63 9 v).run Tryz.prog w = .ok (.string (strOfNums bs)) w := by
  subst hn
  rcases h.2 with ⟨rfl, h0⟩ | ⟨g, cap, cur, rfl, _, _⟩
  · rw [List.eq_nil_of_length_eq_zero h0]
    exact run_convert_bytes_nil w 63 5 Tryz.underlying63 Tryz.underlying5 0 0 _ Tryz.underlying9
  · refine run_convert_bytes_arg w 63 5 Tryz.underlying63 Tryz.underlying5 g 0 _ cap bs rfl (fun j hj => ?_) _ Tryz.underlying9
    rw [Nat.zero_add, h.cellAt j (by omega)]
    simp [List.getElem?_eq_getElem hj]
theorem BR.conv {w : World} {B : Nat} {v : Value} {bs : List UInt8} (h : BR B w v bs) :
    (convert 63 9 v).run Tryz.prog w = .ok (.string (strL bs)) w := by
  have h' : w.ownsRow B 5 1 v bs.length ((bs.map fun c => (c.toNat : Int)).map (Value.int .u8)) := by rw [List.map_map]; exact h
  have := conv_own (by simp) h'
  rw [this]
  unfold strOfNums
  rw [List.map_map]
  have e : bs.map ((fun n : Int => UInt8.ofNat n.toNat) ∘ fun c : UInt8 => (c.toNat : Int)) = bs := by
    refine (List.map_congr_left (fun c _ => ?_)).trans (List.map_id bs)
    simp
  rw [e]
  rfl
theorem BR.snoc {B : Nat} {w : World} {v : Value} {bs ys : List UInt8} {m : Nat} (h : w.ownsRow B 5 1 v (bs.length + m) (bytesV bs ++ bytesV ys)) (hm : ys.length = m) : BR B w v (bs ++ ys) := by
  subst hm
  unfold BR
  rw [bytesV_append, List.length_append]
  exact h
/-- append(b, y, ..): bytes that lie somewhere -/
theorem wpList_bytes {ops : Array Oper} {rest : List Oper} {o : Oper} {a : Act} {Q : Exit → Act → World → Prop} (w : World) (hgd : o.guard = none) (s x : Operand)
    (ho : o.op = .call { callee := .builtin .append, args := #[s, x], argTypes := #[63, 63] })
    (B : Nat) (v : Value) (bs ys : List UInt8) (hs : a.eval s = v) (hown : BR B w v bs) (ad : Addr) (m c : Nat) (hx : a.eval x = .slice (some ad) m c) (hm : ys.length = m)
    (hc : ∀ j u, (bytesV ys)[j]? = some u → w.cell? (ad.add j) = some u) (hl : bs.length + m ≤ 2147483648) (hB : B ≤ w.heap.size)
    (h : ∀ v' w', BR B w' v' (bs ++ ys) → Goes w v w' v' → wpList Tryz.prog ops Q rest (a.put o.dst v') w') : wpList Tryz.prog ops Q (o :: rest) a w := by
  obtain ⟨i0, hi, hz0, hz1, hz2⟩ := info_parts Tryz.infoByte
  refine wpList_append_own_at w hgd s x 63 ho B 5 i0 (.int .u8 0) 1 1 Tryz.underlying63 hi hz0 hz1 hz2 rfl (by decide) v bs.length (bytesV bs) hs hown ad m c (bytesV ys) hx (by rw [bytesV_len, hm, Nat.mul_one]) hc (bytesV_one ys) (by unfold maxLen; omega) (by omega) hB ?_
  intro v' w' h1 h2 _ h4
  refine h v' w' (BR.snoc h1 hm) ⟨h2, ?_⟩
  rcases h4 with e | e
  · exact .inl e
  · exact .inr ⟨_, e, Nat.le_refl _⟩
theorem strCells_strL (l : List UInt8) : Lib.strCells (strL l) = bytesV l := rfl
/-- append(b, s...): a text -/
theorem wpList_text {ops : Array Oper} {rest : List Oper} {o : Oper} {a : Act} {Q : Exit → Act → World → Prop} (w : World) (hgd : o.guard = none) (sl x : Operand)
    (ho : o.op = .call { callee := .builtin .append, args := #[sl, x], argTypes := #[63, 9] })
    (B : Nat) (v : Value) (bs ys : List UInt8) (hs : a.eval sl = v) (hown : BR B w v bs) (hx : a.eval x = .string (strL ys)) (hl : bs.length + ys.length ≤ 2147483648) (hB : B ≤ w.heap.size)
    (h : ∀ v' w', BR B w' v' (bs ++ ys) → Goes w v w' v' → wpList Tryz.prog ops Q rest (a.put o.dst v') w') : wpList Tryz.prog ops Q (o :: rest) a w := by
  obtain ⟨i0, hi, hz0, hz1, hz2⟩ := info_parts Tryz.infoByte
  refine wpList_plain hgd fun K hK => ?_
  have hu : Tryz.prog.underlying 9 = some .string := Tryz.underlying9
  have ht : Tryz.prog.underlying 63 = some (.slice 5) := Tryz.underlying63
  obtain ⟨v', w', hr, h2, h3, h4⟩ := Lib.run_append_own_string (P := Tryz.prog) w B 63 9 o.type 5 i0 ht hu hi hz0 hz1 hz2 v bs.length (bytesV bs) hown (strL ys) (by unfold maxLen; rw [strL_size]; omega) (by rw [strL_size]; omega) hB
  have hob : v'.ownBlock = v.ownBlock ∨ ∃ k, v'.ownBlock = some k ∧ w.heap.size ≤ k := by
    rcases hown.2 with ⟨rfl, h0⟩ | ⟨g, cap, cur, rfl, hbg, hg, hnc, hcm, hcs, htake⟩
    · by_cases hz : ys.length = 0
      · exact .inl (congrArg Value.ownBlock (h4.2 ⟨rfl, by rw [strL_size]; exact hz⟩))
      · have hr2 := run_append_nil_string (P := Tryz.prog) w 63 9 o.type 5 i0 (.int .u8 0) ht hu hi hz0 (strL ys) (by rw [strL_size]; omega) (by rw [strL_size]; omega) (by rw [hz2, strL_size]; omega)
        rw [hr] at hr2
        injection hr2 with e1 e2
        exact .inr ⟨w.heap.size, by rw [e1]; rfl, Nat.le_refl _⟩
    · have hcs' : cur.size = cap := by simpa using hcs
      by_cases hroom : bs.length + (strL ys).size ≤ cap
      · have hr2 := Lib.run_append_room_string (P := Tryz.prog) w 63 9 o.type 5 i0 ht hu hi hz1 g bs.length cap cur hg (strL ys) hroom (by omega)
        rw [hr] at hr2
        injection hr2 with e1 e2
        exact .inl (by rw [e1]; rfl)
      · have holds : ∀ j u, (bytesV bs)[j]? = some u → w.cell? ((⟨g, 0, none⟩ : Addr).add j) = some u := hown.cells (g := g) rfl
        rw [strL_size] at hroom
        have hr2 := Lib.run_append_grow_string (P := Tryz.prog) w 63 9 o.type 5 i0 (.int .u8 0) ht hu hi hz0 ⟨g, 0, none⟩ bs.length cap (bytesV bs) (by rw [hz1, bytesV_len, Nat.mul_one]) holds (strL ys) (by rw [strL_size]; omega) (by rw [strL_size]; omega) (by rw [hz2, strL_size]; exact growslice_fits (by omega) (by omega))
        rw [hr] at hr2
        injection hr2 with e1 e2
        exact .inr ⟨w.heap.size, by rw [e1]; rfl, Nat.le_refl _⟩
  unfold Oper.wp execOp
  simp only [ho, resolve, invoke, builtin, Sem.run_bind, Sem.run_pure, Result.andThen_ok, List.map_toArray, List.map_cons, List.map_nil, hs, hx, hr]
  refine hK _ _ (h v' w' ?_ ⟨h3, hob⟩)
  exact BR.snoc (by rw [strCells_strL] at h2; exact h2) rfl
end Go.Proofs.YtjjoedkigjekcaaGreatDoor

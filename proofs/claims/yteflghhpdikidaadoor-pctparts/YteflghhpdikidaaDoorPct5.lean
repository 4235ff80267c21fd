/-
  What is proved here: what pct.Unescape and pct.Places answer at every text of at most 2^31 bytes.
-/
import Derived.Test.YteflghhpdikidaaDoorPct3
import Derived.Test.YteflghhpdikidaaDoorPct4
import Derived.Shelf.Abstract
namespace Go.Proofs.YteflghhpdikidaaDoor
open Go.RowKit

/-- the bytes of what a text stands for -/
def Pct.str (l : List (Nat × UInt8)) : ByteArray := ⟨(l.map (·.2)).toArray⟩
theorem strOfNums_str (l : List (Nat × UInt8)) : strOfNums (l.map fun x => (x.2.toNat : Int)) = Pct.str l := by
  unfold strOfNums Pct.str
  simp
/-- a slice value that holds numbers -/
def Nums (K : IntKind) (w : World) (v : Value) (ns : List Int) : Prop :=
  ∃ a cap, v = .slice a ns.length cap ∧ ∀ j, j < ns.length → ∃ b off, a = some ⟨b, off, none⟩ ∧ w.cell? ⟨b, off + j, none⟩ = some (.int K (ns.getD j 0))
theorem Nums.below {K : IntKind} {w w' : World} {v : Value} {ns : List Int} (h : Nums K w v ns) (hb : Below w.heap.size w w') : Nums K w' v ns := by
  obtain ⟨a, cap, rfl, h⟩ := h
  refine ⟨a, cap, rfl, fun j hj => ?_⟩
  obtain ⟨b, off, rfl, hc⟩ := h j hj
  exact ⟨b, off, rfl, (hb.cell (p := ⟨b, off + j, none⟩) (lt_of_cell hc)).trans hc⟩
theorem Nums.own {K : IntKind} {E : TypeId} {w : World} {B : Nat} {v : Value} {ns : List Int} (h : w.ownsRow B E 1 v ns.length (ns.map (Value.int K))) : Nums K w v ns := by
  rcases h.2 with ⟨rfl, h0⟩ | ⟨g, cap, cur, rfl, _, _⟩
  · exact ⟨none, 0, by rw [h0], fun j hj => by omega⟩
  · refine ⟨some ⟨g, 0, none⟩, cap, rfl, fun j hj => ⟨g, 0, rfl, ?_⟩⟩
    rw [Nat.zero_add, h.cellAt j (by omega)]
    simp [List.getElem?_eq_getElem hj]
theorem Cap.below {T E : TypeId} {K : IntKind} {B : Nat} {l : List Int} {w w' : World} (h : Cap T E K B l w) (hb : Below w.heap.size w w') : Cap T E K B l w' := by
  obtain ⟨v, hv, ho⟩ := h
  exact ⟨v, (hb.block B (lt_of_block hv)).trans hv, owns_below ho hb⟩
theorem cap_start (T E : TypeId) (K : IntKind) (w : World) : Cap T E K w.heap.size [] (w.alloc (.cells #[.slice none 0 0] T)) :=
  ⟨_, heap_alloc_new _ _, World.ownsRow_nil _ _ _ _⟩
theorem enters_bytes : ∀ args w, (callFunc 26 args).run Tryd.prog w = .ok (.enter 26 args) w := enters_of Tryd.func26 (by kernel_rfl) rfl
theorem enters_places : ∀ args w, (callFunc 28 args).run Tryd.prog w = .ok (.enter 28 args) w := enters_of Tryd.func28 (by kernel_rfl) rfl

/-- what holds of the captured variable while each byte is handed on -/
def InvB (w : World) (m : List (Nat × UInt8)) (w' : World) : Prop := Cap 52 5 .u8 w.heap.size (m.map fun x => (x.2.toNat : Int)) w' ∧ Below w.heap.size w w'
def InvP (w : World) (m : List (Nat × UInt8)) (w' : World) : Prop := Cap 27 3 .i64 w.heap.size (m.map fun x => (x.1 : Int)) w' ∧ Below w.heap.size w w'
theorem invB_mono (w : World) : ∀ m w' w'', InvB w m w' → Below w'.heap.size w' w'' → InvB w m w'' := fun _ _ _ h hb => ⟨h.1.below hb, h.2.trans (hb.mono h.2.size)⟩
theorem invP_mono (w : World) : ∀ m w' w'', InvP w m w' → Below w'.heap.size w' w'' → InvP w m w'' := fun _ _ _ h hb => ⟨h.1.below hb, h.2.trans (hb.mono h.2.size)⟩
theorem invB_start (w : World) : InvB w [] (w.alloc (.cells #[.slice none 0 0] 52)) := ⟨cap_start _ _ _ w, (Below.refl _ _).alloc (Nat.le_refl _) _⟩
theorem invP_start (w : World) : InvP w [] (w.alloc (.cells #[.slice none 0 0] 27)) := ⟨cap_start _ _ _ w, (Below.refl _ _).alloc (Nat.le_refl _) _⟩
theorem invB_step (w : World) (n : Nat) (hn : n ≤ 2147483648) : ∀ m (k : Nat) (c : UInt8) w', m.length ≤ n → InvB w m w' → Calls Tryd.prog 26 #[.int .i64 k, .int .u8 c.toNat, .pointer (some ⟨w.heap.size, 0, none⟩)] w' fun e w'' => e = .returned (.tuple #[]) ∧ InvB w (m ++ [(k, c)]) w'' := by
  intro m k c w' hm h
  refine (clo_bytes w.heap.size _ k c.toNat w' (by simp; omega) h.1).mono ?_
  rintro e w'' ⟨rfl, hC, hb⟩
  refine ⟨rfl, by simpa using hC, h.2.trans hb⟩
theorem invP_step (w : World) (n : Nat) (hn : n ≤ 2147483648) : ∀ m (k : Nat) (c : UInt8) w', m.length ≤ n → InvP w m w' → Calls Tryd.prog 28 #[.int .i64 k, .int .u8 c.toNat, .pointer (some ⟨w.heap.size, 0, none⟩)] w' fun e w'' => e = .returned (.tuple #[]) ∧ InvP w (m ++ [(k, c)]) w'' := by
  intro m k c w' hm h
  refine (clo_places w.heap.size _ k c.toNat w' (by simp; omega) h.1).mono ?_
  rintro e w'' ⟨rfl, hC, hb⟩
  refine ⟨rfl, by simpa using hC, h.2.trans hb⟩

set_option maxHeartbeats 1000000 in
theorem unescape_ok (s : ByteArray) (w : World) (hs : s.size ≤ 2147483648) (l : List (Nat × UInt8)) (h : Pct.un s.data.toList 0 = (l, 0, 0)) :
    Calls Tryd.prog 10 #[.string s] w fun e w' => e = .returned (.tuple #[.string (Pct.str l), .nilIface]) ∧ Below w.heap.size w w' := by
  have HE := Hid.mk' (each_ok s 26 w.heap.size (InvB w) _ hs l h (invB_start w) enters_bytes (invB_mono w) (invB_step w _ hs))
  clear h
  go_enter Tryd.func10, Tryd.ntmps10
  go_wp2_with fail
  refine HE.out.mono ?_
  rintro e w1 ⟨rfl, ⟨v, hv, ho⟩, hb⟩
  have cW := cell_of_one hv
  have hconv := conv_own rfl ho
  rw [strOfNums_str] at hconv
  clear hv ho
  go_wp2
  go_ret2
  exact ⟨rfl, hb⟩

set_option maxHeartbeats 1000000 in
theorem unescape_err (s : ByteArray) (w : World) (p : Nat → Addr) (hg : Gl p w) (hs : s.size ≤ 2147483648) (ka ce : Nat) (h : Pct.un s.data.toList 0 = ([], ka, ce)) (hce : ce ≠ 0) :
    Calls Tryd.prog 10 #[.string s] w fun e w' => ∃ b, e = .returned (.tuple #[.string ⟨#[]⟩, .iface 57 (.pointer (some ⟨b, 0, none⟩))]) ∧ Flt w' (.iface 57 (.pointer (some ⟨b, 0, none⟩))) w.heap.size ka (p ce) ∧ Below w.heap.size w w' := by
  have HE := Hid.mk' (each_err s 26 w.heap.size (InvB w) w _ p hg hs ka ce h hce (invB_start w) (fun _ _ h => h.2) enters_bytes (invB_mono w) (invB_step w _ hs))
  clear h hg
  go_enter Tryd.func10, Tryd.ntmps10
  go_wp2_with fail
  refine HE.out.mono ?_
  rintro e w1 ⟨b, rfl, hf, hb⟩
  have HF := Hid.mk' hf
  clear hf
  go_wp2
  go_ret2
  exact ⟨b, rfl, HF.out, hb⟩

set_option maxHeartbeats 1000000 in
theorem places_ok (s : ByteArray) (w : World) (hs : s.size ≤ 2147483648) (l : List (Nat × UInt8)) (h : Pct.un s.data.toList 0 = (l, 0, 0)) :
    Calls Tryd.prog 12 #[.string s] w fun e w' => ∃ v, e = .returned v ∧ Nums .i64 w' v (l.map fun x => (x.1 : Int)) ∧ Below w.heap.size w w' := by
  have HE := Hid.mk' (each_ok s 28 w.heap.size (InvP w) _ hs l h (invP_start w) enters_places (invP_mono w) (invP_step w _ hs))
  clear h
  go_enter Tryd.func12, Tryd.ntmps12
  go_wp2_with fail
  refine HE.out.mono ?_
  rintro e w1 ⟨rfl, ⟨v, hv, ho⟩, hb⟩
  have cW := cell_of_one hv
  have HO := Hid.mk' ho
  clear hv ho
  go_wp2
  go_ret
  exact ⟨v, rfl, Nums.own HO.out, hb⟩

set_option maxHeartbeats 1000000 in
theorem places_err (s : ByteArray) (w : World) (p : Nat → Addr) (hg : Gl p w) (hs : s.size ≤ 2147483648) (ka ce : Nat) (h : Pct.un s.data.toList 0 = ([], ka, ce)) (hce : ce ≠ 0) :
    Calls Tryd.prog 12 #[.string s] w fun e w' => e = .returned (.slice none 0 0) ∧ Below w.heap.size w w' := by
  have HE := Hid.mk' (each_err s 28 w.heap.size (InvP w) w _ p hg hs ka ce h hce (invP_start w) (fun _ _ h => h.2) enters_places (invP_mono w) (invP_step w _ hs))
  clear h hg
  go_enter Tryd.func12, Tryd.ntmps12
  go_wp2_with fail
  refine HE.out.mono ?_
  rintro e w1 ⟨b, rfl, hf, hb⟩
  clear hf
  go_wp2
  go_ret
  exact ⟨rfl, hb⟩
end Go.Proofs.YteflghhpdikidaaDoor

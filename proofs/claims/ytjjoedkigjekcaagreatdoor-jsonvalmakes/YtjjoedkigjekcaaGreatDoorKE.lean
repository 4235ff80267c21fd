/-
  What is proved here: values that are made in a variable of the call's own; what jsonval.Str and Int answer.
-/
import Derived.Test.YtjjoedkigjekcaaGreatDoorJP0
import Derived.Test.YtjjoedkigjekcaaGreatDoorK4
import Derived.Test.YtjjoedkigjekcaaGreatDoorShelf
namespace Go.Proofs.YtjjoedkigjekcaaGreatDoor
open Go.RowKit

theorem Tryz.sizeValue : (Tryz.prog.info? 25).map (·.size) = some 4 := by kernel_rfl
/-- what a call answers whose result is a value that lies in a block -/
theorem ret_value {fn : Func} {p : Tmp} (hf : fn.results = #[.cell p 25]) {R : Ending → World → Prop} {a : Act} {w : World} (g : Nat) (c0 c1 c2 c3 : Value) (hp : a.tmps.getD p undef = .pointer (some ⟨g, 0, none⟩)) {T : TypeId} (hg : Blk w g T [c0, c1, c2, c3]) (hd : a.defers = []) (hR : R (.returned (.agg #[c0, c1, c2, c3])) w) : bodyPost Tryz.prog fn R .ret a w :=
  bodyPost_ret (v := .agg #[c0, c1, c2, c3]) (results_cell_row hf _ _ g _ _ _ _ hp hg Tryz.underlying25 rfl Tryz.sizeValue) hd hR
theorem ret_value_bool {fn : Func} {p u : Tmp} (hf : fn.results = #[.cell p 25, .tmp u]) {R : Ending → World → Prop} {a : Act} {w : World} (g : Nat) (c0 c1 c2 c3 x : Value) (hp : a.tmps.getD p undef = .pointer (some ⟨g, 0, none⟩)) (hx : a.tmps.getD u undef = x) {T : TypeId} (hg : Blk w g T [c0, c1, c2, c3]) (hd : a.defers = []) (hR : R (.returned (.tuple #[.agg #[c0, c1, c2, c3], x])) w) : bodyPost Tryz.prog fn R .ret a w := by
  refine bodyPost_ret (v := .tuple #[.agg #[c0, c1, c2, c3], x]) ?_ hd hR
  rw [results_cell_tmp hf, hp, hx]
  simp only [asAddr, Sem.run_pure, Result.andThen_ok]
  rw [run_loadVar_row w g T 25 #[c0, c1, c2, c3] (0, 0) _ hg Tryz.underlying25 rfl Tryz.sizeValue]
  rfl
set_option maxHeartbeats 1000000 in
theorem str12_any (s : List UInt8) (w : World) :
    Calls Tryz.prog 30 #[.string (strL s)] w fun e w' => (∃ cs, e = .returned (.agg cs.toArray) ∧ VJ w' (.mk 4 s [] []) cs) ∧ Below w.heap.size w w' := by
  generalize hS : strL s = S
  have HS := Hid.mk' hS
  clear hS
  go_enter Tryz.func30, Tryz.ntmps30
  go_wp2
  refine ret_value Tryz.results30 w.heap.size _ _ _ _ rfl (Blk.new w 25 [.int .i64 4, .string S, .slice none 0 0, .slice none 0 0]) rfl ⟨⟨_, rfl, ?_⟩, (Below.refl _ w).alloc (Nat.le_refl _) _⟩
  refine (VJ_mk ..).2 ⟨none, 0, none, 0, by rw [HS.out]; rfl, fun j t h => by simp at h, fun j x h => by simp at h⟩
theorem num_value (w : World) (s : List UInt8) : VJ w (.mk 3 s [] []) [.int .i64 3, .string (strL s), .slice none 0 0, .slice none 0 0] :=
  (VJ_mk ..).2 ⟨none, 0, none, 0, rfl, fun j t h => by simp at h, fun j x h => by simp at h⟩
set_option maxHeartbeats 1000000 in
theorem intOf_any (n : Int) (s : List UInt8) (w : World) (hI : ∀ W, Below w.heap.size w W → Calls Tryz.prog 50 #[.int .i64 n] W fun e w' => e = .returned (.string (strL s)) ∧ Below W.heap.size W w') :
    Calls Tryz.prog 31 #[.int .i64 n] w fun e w' => (∃ cs, e = .returned (.agg cs.toArray) ∧ VJ w' (.mk 3 s [] []) cs) ∧ Below w.heap.size w w' := by
  have hb0 : Below w.heap.size w (w.alloc (.cells #[.int .i64 0, .string ⟨#[]⟩, .slice none 0 0, .slice none 0 0] 25)) := (Below.refl _ w).alloc (Nat.le_refl _) _
  have HI := Hid.mk' (hI _ hb0)
  have hbk : Blk (w.alloc (.cells #[.int .i64 0, .string ⟨#[]⟩, .slice none 0 0, .slice none 0 0] 25)) w.heap.size 25 [.int .i64 0, .string ⟨#[]⟩, .slice none 0 0, .slice none 0 0] := Blk.new _ _ _
  have HF : Hid (∀ W, Below (w.alloc (.cells #[.int .i64 0, .string ⟨#[]⟩, .slice none 0 0, .slice none 0 0] 25)).heap.size (w.alloc (.cells #[.int .i64 0, .string ⟨#[]⟩, .slice none 0 0, .slice none 0 0] 25)) W → Blk W w.heap.size 25 [.int .i64 0, .string ⟨#[]⟩, .slice none 0 0, .slice none 0 0] ∧ Below w.heap.size w W) := fun W hb => ⟨hbk.below hb, hb0.trans (hb.mono hb0.size)⟩
  have HN := Hid.mk' (fun W => num_value W s)
  generalize strL s = S at *
  clear hI hbk hb0
  go_enter Tryz.func31, Tryz.ntmps31
  go_wp2_with fail
  refine HI.out.mono ?_
  rintro e w1 ⟨rfl, hb1⟩
  obtain ⟨hk, hfin⟩ := HF.out _ hb1
  have c0 := hk.cell 0 rfl
  have c1 := hk.cell 1 rfl
  have c2 := hk.cell 2 rfl
  have c3 := hk.cell 3 rfl
  have f0 := hk.free 0
  have f1 := hk.free 1
  have f2 := hk.free 2
  have f3 := hk.free 3
  have hk4 := (((hk.set 0 (.int .i64 3)).set 1 (.string S)).set 2 (.slice none 0 0)).set 3 (.slice none 0 0)
  have hb4 := (((hfin.setCell (p := ⟨w.heap.size, 0, none⟩) (Nat.le_refl _) (.int .i64 3)).setCell (p := ⟨w.heap.size, 1, none⟩) (Nat.le_refl _) (.string S)).setCell (p := ⟨w.heap.size, 2, none⟩) (Nat.le_refl _) (.slice none 0 0)).setCell (p := ⟨w.heap.size, 3, none⟩) (Nat.le_refl _) (.slice none 0 0)
  clear HI HF hb1 hk hfin
  go_wp2
  exact ret_value Tryz.results31 w.heap.size _ _ _ _ rfl hk4 rfl ⟨⟨_, rfl, HN.out _⟩, hb4⟩
end Go.Proofs.YtjjoedkigjekcaaGreatDoor

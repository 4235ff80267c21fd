/-
  What is proved here: what the rows' condition on package-level variables gives the walks, for the rows that list a table of Go's library; that it can be met; a wrap that keeps the world's shape beside such a condition.
-/
import Derived.Test.YteflghhpdikidaaDoorFrame
import Derived.Test.YteflghhpdikidaaDoorShelf
import Derived.Lay
import Derived.HandedShaped
namespace Go.Proofs.YteflghhpdikidaaDoor
open Go.ChangeShapes Go.WideShapes Go.ChangeAt Go.RowKit

/-- The wrap, with a condition on the world beside the row's own, and the world's shape handed to the contract. -/
theorem handed_and_shaped {H : Type} {enc : TypeId × Value → H} {a : Assume} {C : Checked} {os : Os} {f : FuncId} {fn : Func} {s : ChangeSpec} {conds : List PathCond} {apart fresh handsOn again : Bool} {X : World → Array Value → Prop}
    (hX : ∀ (w w' : World) (args : Array Value), w.heap = w'.heap → X w args → X w' args)
    (own : ownKnob C.prog.godebug = none) (started : os.Started) (noInit : C.prog.inits.idxOf? f = none) (hfn : C.prog.funcs[f]? = some fn)
    (witness : ∃ (w : World) (tape : Tape) (i : Input), w.os = os ∧ (w.forCall tape i).Shaped C.prog ∧ i.vars = [] ∧ Input.okWide C.prog (w.forCall tape i) .any w.heap.size f i ∧
      ((s.pre enc C.prog fn conds apart (w.forCall tape i).memory i.args ∧ X (w.forCall tape i).memory i.args) ∧ sizedMet enc C.prog fn (OpenSpec.ofChange s) apart (w.forCall tape i).memory i.args) ∧ a.holds C.prog (lone (Frame.enter C.prog f i.args .normal) [] (w.forCall tape i)))
    (contract : ∀ (W : World) (base : Nat) (args : Array Value) (ds gs : List (DataW H)) (before : List MemPlace),
      (∀ (j : Nat) t v, fn.params[j]? = some t → args[j]? = some v → Value.okWide C.prog W .any base t v) →
      DataW.Whole enc C.prog fn.params.toList s.vars apart W args.toList ds gs before → X W args → W.ShapedOpen C.prog →
      Calls C.prog f args W fun e W' => ∃ v, e = .returned v ∧ s.post enc C.prog fn apart fresh handsOn again W args v W') :
    ReturnsInHanded a C os f .any (fun w args => (s.pre enc C.prog fn conds apart w args ∧ X w args) ∧ sizedMet enc C.prog fn (OpenSpec.ofChange s) apart w args) (s.post enc C.prog fn apart fresh handsOn again) := by
  refine returnsInHanded_of_calls own started noInit witness ?_
  intro w tape i _ hsh _ hok hpre _
  obtain ⟨_, _, _, fn', hfn', _, _, _, _, hval⟩ := hok
  have e : fn' = fn := Option.some.inj (hfn'.symm.trans hfn)
  subst e
  obtain ⟨⟨⟨ds, gs, before, hw, _⟩, hx⟩, _⟩ := hpre
  have hw' := DataW.Whole.of_heap (w' := w.forCall tape i) (by rfl) hw
  refine (contract (w.forCall tape i) w.heap.size i.args ds gs before hval hw' (hX _ _ _ (by rfl) hx) hsh).mono fun e W' ⟨v, he, hp⟩ => ?_
  subst he
  exact ChangeSpec.post_blind hp

theorem laid_oneS {W : World} (h : laidMetH Tryd.prog Rows.pctSplitsRow.laid W) (n : String) (l : List (String × DataW Unit)) (e : (Rows.pctSplitsRow.laid.filter fun x => x.1 == n) = l) : laidMetH Tryd.prog l W := by
  rw [← e]; exact h.filter _
/-- WHAT THE CONDITION GIVES THE WALKS. -/
theorem gl_of_laidS {W : World} (h : laidMetH Tryd.prog Rows.pctSplitsRow.laid W) : ∃ p, Gl p W := by
  have h0 := handle_cell (laid_oneS h "errors.errorType" [("errors.errorType", Rows.laid_errors_errorType)] (by kernel_rfl))
  obtain ⟨a1, h1⟩ := sentinel_cell (laid_oneS h "eponym/api.ErrByte" [("eponym/api.ErrByte", Rows.laid_eponym_api_ErrByte)] (by kernel_rfl)) (g := 0) (by kernel_rfl) (by kernel_rfl)
  obtain ⟨a2, h2⟩ := sentinel_cell (laid_oneS h "eponym/api.ErrEnd" [("eponym/api.ErrEnd", Rows.laid_eponym_api_ErrEnd)] (by kernel_rfl)) (g := 2) (by kernel_rfl) (by kernel_rfl)
  obtain ⟨a4, h4⟩ := sentinel_cell (laid_oneS h "eponym/api.ErrRange" [("eponym/api.ErrRange", Rows.laid_eponym_api_ErrRange)] (by kernel_rfl)) (g := 4) (by kernel_rfl) (by kernel_rfl)
  exact ⟨fun n => if n = 1 then a1 else if n = 2 then a2 else a4, h0, h1, h2, h4⟩
theorem maxLen_of_shape {W : World} (h : W.ShapedOpen Tryd.prog) : ∃ m, W.cell? ⟨19, 0, none⟩ = some (.int .i64 m) := Tryd.laysM146.s1_3 W h

/-- The door's own heap, with the library's table laid in it, meets the condition. -/
theorem door_metS (os : Os) (args : Array Value) : laidMetH Tryd.prog Rows.pctSplitsRow.laid (((World.doorLaid Tryd.prog 400 os).layVars Tryd.prog [("unicode/utf8.first", Rows.laid_unicode_utf8_first)]).forCall (fun _ _ => 0) ⟨#[], args, []⟩).memory :=
  laidMetH_of_parts3 (fuel := 8) (laidMet_layVars (w0 := World.doorLaid Tryd.prog 400 os) ["unicode/utf8.first"] ((List.range (World.doorLaid Tryd.prog 400 os).heap.size).filter (· != 20)) (by kernel_rfl) (by kernel_rfl) (by kernel_rfl) (LaidIn.of_run _ 8 (by kernel_rfl) (by kernel_rfl) (by kernel_rfl) (by kernel_rfl))) (by kernel_rfl) (by kernel_rfl)
end Go.Proofs.YteflghhpdikidaaDoor

/-
  What is proved here: the library's errors.Is, walked, at a *api.Fault that wraps the named error that is asked for. No condition beyond the one cell that is read.
-/
import Derived.Test.YtojpkkbagcahdaaDoorProg
import Derived.WalkKit
import Derived.WalkSpells
import Derived.WalkLawsBesides
import Derived.LaidEql
import Derived.Stop.Asserts
import Derived.RowKitTokens
namespace Go.Proofs.YtojpkkbagcahdaaDoor
open Go.RowKit Go.Extern.Stop Go.Stop Go.Extern

namespace Is
/-- (rtype).Comparable's entry. -/
def cmpEntry : Array Value → Sem Value := Extern.ReflectliteType.method fun t => do Rtype.noPackHeld "Comparable" t; pure (.bool (← typeInfo t).comparable)
theorem typeOf (v : Value) (w : World) : (Extern.ReflectliteType.typeOf #[.iface 153 v]).run Tryd.prog w = .ok (.iface 101 (.agg #[.pointer (some ⟨20, 153, none⟩)])) w := by kernel_rfl
theorem comparable (w : World) : (cmpEntry #[.agg #[.pointer (some ⟨20, 153, none⟩)]]).run Tryd.prog w = .ok (.bool true) w := by kernel_rfl
theorem methodComparable (v : Value) (w : World) : (Go.method 286 101 v "Comparable").run Tryd.prog w = .ok (136, v) w := by kernel_rfl
theorem comp : (Tryd.prog.info? 153).map (·.comparable) = some true := by kernel_rfl
theorem size : (Tryd.prog.info? 174).map (·.size) = some 1 := by kernel_rfl
theorem noIsF (v : Value) (xT : TypeId) (w : World) : (Instr.typeAssert (.iface 48 v) xT 113 true).run Tryd.prog w = .ok (.tuple #[.nilIface, .bool false]) w := run_typeAssert_lacksB Tryd.underlying113 (by kernel_rfl) (by kernel_rfl) v xT w
theorem hasUnwrapF (v : Value) (xT : TypeId) (w : World) : (Instr.typeAssert (.iface 48 v) xT 108 true).run Tryd.prog w = .ok (.tuple #[.iface 48 v, .bool true]) w := run_typeAssert_hasB Tryd.underlying108 (by kernel_rfl) v xT w
theorem methodUnwrap (v : Value) (w : World) : (Go.method 286 48 v "Unwrap").run Tryd.prog w = .ok (130, v) w := by kernel_rfl
end Is

set_option maxHeartbeats 1000000 in
/-- errors.Is(e, x), e a *api.Fault that wraps x itself: true. -/
theorem is_fault (pb po : Nat) (b : Addr) (w : World) (h1 : w.cell? ⟨pb, po + 1, none⟩ = some (.iface 153 (.pointer (some b)))) :
    Calls Tryd.prog 26 #[.iface 48 (.pointer (some ⟨pb, po, none⟩)), .iface 153 (.pointer (some b))] w fun e w' => e = .returned (.bool true) ∧ w = w' := by
  obtain ⟨i, hi, hcmp⟩ := Option.map_eq_some_iff.1 Is.comp
  obtain ⟨j, hj, hjs⟩ := Option.map_eq_some_iff.1 Is.size
  have h8 := @run_callFunc_extern Tryd.prog 48 _ Extern.ReflectliteType.typeOf Tryd.func48 (by kernel_rfl) (by kernel_rfl) (by kernel_rfl) (by kernel_rfl)
  have h32 := @run_callFunc_extern Tryd.prog 136 _ Is.cmpEntry Tryd.func136 (by kernel_rfl) (by kernel_rfl) (by kernel_rfl) (by kernel_rfl)
  have tT := Is.typeOf
  have cT := Is.comparable
  have mR := Is.methodComparable
  have nW := Is.noIsF
  have uW := Is.hasUnwrapF
  have mU := Is.methodUnwrap
  have heq := run_eql_iface_ptr_same (P := Tryd.prog) w b Tryd.underlying33 Tryd.underlying153 hi hcmp hj
  have hty := run_eql_iface_types (P := Tryd.prog) 48 153 (.pointer (some ⟨pb, po, none⟩)) (.pointer (some b)) Tryd.underlying33 (by decide) w
  go_enter Tryd.func26, Tryd.ntmps26
  go_wp2
  refine wp_loop_rounds 2 ?_
  rw [rounds_succ]
  go_wp2
  rw [rounds_succ]
  go_wp2
  go_ret
  exact ⟨rfl, rfl⟩
end Go.Proofs.YtojpkkbagcahdaaDoor

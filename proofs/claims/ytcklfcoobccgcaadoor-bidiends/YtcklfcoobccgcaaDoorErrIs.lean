/-
  What is proved here: the library's errors.Is, walked, at a *api.Fault that wraps the named error that is asked for. No condition beyond the one cell that is read.
-/
import Derived.Test.YtcklfcoobccgcaaDoorProg
import Derived.WalkKit
import Derived.WalkSpells
import Derived.WalkLawsBesides
import Derived.LaidEql
import Derived.Stop.Asserts
import Derived.RowKitTokens
namespace Go.Proofs.YtcklfcoobccgcaaDoor
open Go.RowKit Go.Extern.Stop Go.Stop Go.Extern

namespace Is
/-- (rtype).Comparable's entry. -/
def cmpEntry : Array Value → Sem Value := Extern.ReflectliteType.method fun t => do Rtype.noPackHeld "Comparable" t; pure (.bool (← typeInfo t).comparable)
theorem typeOf (v : Value) (w : World) : (Extern.ReflectliteType.typeOf #[.iface 117 v]).run Tryd.prog w = .ok (.iface 95 (.agg #[.pointer (some ⟨19, 117, none⟩)])) w := by kernel_rfl
theorem comparable (w : World) : (cmpEntry #[.agg #[.pointer (some ⟨19, 117, none⟩)]]).run Tryd.prog w = .ok (.bool true) w := by kernel_rfl
theorem methodComparable (v : Value) (w : World) : (Go.method 250 95 v "Comparable").run Tryd.prog w = .ok (91, v) w := by kernel_rfl
theorem comp : (Tryd.prog.info? 117).map (·.comparable) = some true := by kernel_rfl
theorem size : (Tryd.prog.info? 139).map (·.size) = some 1 := by kernel_rfl
theorem noIsF (v : Value) (xT : TypeId) (w : World) : (Instr.typeAssert (.iface 55 v) xT 107 true).run Tryd.prog w = .ok (.tuple #[.nilIface, .bool false]) w := run_typeAssert_lacksB Tryd.underlying107 (by kernel_rfl) (by kernel_rfl) v xT w
theorem hasUnwrapF (v : Value) (xT : TypeId) (w : World) : (Instr.typeAssert (.iface 55 v) xT 102 true).run Tryd.prog w = .ok (.tuple #[.iface 55 v, .bool true]) w := run_typeAssert_hasB Tryd.underlying102 (by kernel_rfl) v xT w
theorem methodUnwrap (v : Value) (w : World) : (Go.method 250 55 v "Unwrap").run Tryd.prog w = .ok (85, v) w := by kernel_rfl
end Is

set_option maxHeartbeats 1000000 in
/-- errors.Is(e, x), e a *api.Fault that wraps x itself: true. -/
theorem is_fault (pb po : Nat) (b : Addr) (w : World) (h1 : w.cell? ⟨pb, po + 1, none⟩ = some (.iface 117 (.pointer (some b)))) :
    Calls Tryd.prog 31 #[.iface 55 (.pointer (some ⟨pb, po, none⟩)), .iface 117 (.pointer (some b))] w fun e w' => e = .returned (.bool true) ∧ w = w' := by
  obtain ⟨i, hi, hcmp⟩ := Option.map_eq_some_iff.1 Is.comp
  obtain ⟨j, hj, hjs⟩ := Option.map_eq_some_iff.1 Is.size
  have h8 := @run_callFunc_extern Tryd.prog 51 _ Extern.ReflectliteType.typeOf Tryd.func51 (by kernel_rfl) (by kernel_rfl) (by kernel_rfl) (by kernel_rfl)
  have h32 := @run_callFunc_extern Tryd.prog 91 _ Is.cmpEntry Tryd.func91 (by kernel_rfl) (by kernel_rfl) (by kernel_rfl) (by kernel_rfl)
  have tT := Is.typeOf
  have cT := Is.comparable
  have mR := Is.methodComparable
  have nW := Is.noIsF
  have uW := Is.hasUnwrapF
  have mU := Is.methodUnwrap
  have heq := run_eql_iface_ptr_same (P := Tryd.prog) w b Tryd.underlying32 Tryd.underlying117 hi hcmp hj
  have hty := run_eql_iface_types (P := Tryd.prog) 55 117 (.pointer (some ⟨pb, po, none⟩)) (.pointer (some b)) Tryd.underlying32 (by decide) w
  go_enter Tryd.func31, Tryd.ntmps31
  go_wp2
  refine wp_loop_rounds 2 ?_
  rw [rounds_succ]
  go_wp2
  rw [rounds_succ]
  go_wp2
  go_ret
  exact ⟨rfl, rfl⟩
end Go.Proofs.YtcklfcoobccgcaaDoor

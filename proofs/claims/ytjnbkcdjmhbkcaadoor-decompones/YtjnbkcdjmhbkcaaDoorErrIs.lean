/-
  What is proved here: the library's errors.Is, walked, at a *api.Fault that wraps the named error that is asked for. No condition beyond the one cell that is read.
-/
import Derived.Test.YtjnbkcdjmhbkcaaDoorProg
import Derived.WalkKit
import Derived.WalkSpells
import Derived.WalkLawsBesides
import Derived.LaidEql
import Derived.Stop.Asserts
import Derived.RowKitTokens
namespace Go.Proofs.YtjnbkcdjmhbkcaaDoor
open Go.RowKit Go.Extern.Stop Go.Stop Go.Extern

namespace Is
/-- (rtype).Comparable's entry. -/
def cmpEntry : Array Value → Sem Value := Extern.ReflectliteType.method fun t => do Rtype.noPackHeld "Comparable" t; pure (.bool (← typeInfo t).comparable)
theorem typeOf (v : Value) (w : World) : (Extern.ReflectliteType.typeOf #[.iface 146 v]).run Tryd.prog w = .ok (.iface 100 (.agg #[.pointer (some ⟨20, 146, none⟩)])) w := by kernel_rfl
theorem comparable (w : World) : (cmpEntry #[.agg #[.pointer (some ⟨20, 146, none⟩)]]).run Tryd.prog w = .ok (.bool true) w := by kernel_rfl
theorem methodComparable (v : Value) (w : World) : (Go.method 279 100 v "Comparable").run Tryd.prog w = .ok (130, v) w := by kernel_rfl
theorem comp : (Tryd.prog.info? 146).map (·.comparable) = some true := by kernel_rfl
theorem size : (Tryd.prog.info? 167).map (·.size) = some 1 := by kernel_rfl
theorem noIsF (v : Value) (xT : TypeId) (w : World) : (Instr.typeAssert (.iface 51 v) xT 112 true).run Tryd.prog w = .ok (.tuple #[.nilIface, .bool false]) w := run_typeAssert_lacksB Tryd.underlying112 (by kernel_rfl) (by kernel_rfl) v xT w
theorem hasUnwrapF (v : Value) (xT : TypeId) (w : World) : (Instr.typeAssert (.iface 51 v) xT 107 true).run Tryd.prog w = .ok (.tuple #[.iface 51 v, .bool true]) w := run_typeAssert_hasB Tryd.underlying107 (by kernel_rfl) v xT w
theorem methodUnwrap (v : Value) (w : World) : (Go.method 279 51 v "Unwrap").run Tryd.prog w = .ok (124, v) w := by kernel_rfl
end Is

set_option maxHeartbeats 1000000 in
/-- errors.Is(e, x), e a *api.Fault that wraps x itself: true. -/
theorem is_fault (pb po : Nat) (b : Addr) (w : World) (h1 : w.cell? ⟨pb, po + 1, none⟩ = some (.iface 146 (.pointer (some b)))) :
    Calls Tryd.prog 31 #[.iface 51 (.pointer (some ⟨pb, po, none⟩)), .iface 146 (.pointer (some b))] w fun e w' => e = .returned (.bool true) ∧ w = w' := by
  obtain ⟨i, hi, hcmp⟩ := Option.map_eq_some_iff.1 Is.comp
  obtain ⟨j, hj, hjs⟩ := Option.map_eq_some_iff.1 Is.size
  have h8 := @run_callFunc_extern Tryd.prog 58 _ Extern.ReflectliteType.typeOf Tryd.func58 (by kernel_rfl) (by kernel_rfl) (by kernel_rfl) (by kernel_rfl)
  have h32 := @run_callFunc_extern Tryd.prog 130 _ Is.cmpEntry Tryd.func130 (by kernel_rfl) (by kernel_rfl) (by kernel_rfl) (by kernel_rfl)
  have tT := Is.typeOf
  have cT := Is.comparable
  have mR := Is.methodComparable
  have nW := Is.noIsF
  have uW := Is.hasUnwrapF
  have mU := Is.methodUnwrap
  have heq := run_eql_iface_ptr_same (P := Tryd.prog) w b Tryd.underlying33 Tryd.underlying146 hi hcmp hj
  have hty := run_eql_iface_types (P := Tryd.prog) 51 146 (.pointer (some ⟨pb, po, none⟩)) (.pointer (some b)) Tryd.underlying33 (by decide) w
  go_enter Tryd.func31, Tryd.ntmps31
  go_wp2
  refine wp_loop_rounds 2 ?_
  rw [rounds_succ]
  go_wp2
  rw [rounds_succ]
  go_wp2
  go_ret
  exact ⟨rfl, rfl⟩
end Go.Proofs.YtjnbkcdjmhbkcaaDoor

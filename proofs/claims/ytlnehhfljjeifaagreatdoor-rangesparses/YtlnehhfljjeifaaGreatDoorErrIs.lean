/-
  What is proved here: the library's errors.Is, walked, at a *api.Fault that wraps the named error that is asked for. No condition beyond the one cell that is read.
-/
import Derived.Test.YtlnehhfljjeifaaGreatDoorProg
import Derived.WalkKit
import Derived.WalkSpells
import Derived.WalkLawsBesides
import Derived.LaidEql
import Derived.Stop.Asserts
import Derived.RowKitTokens
namespace Go.Proofs.YtlnehhfljjeifaaGreatDoor
open Go.RowKit Go.Extern.Stop Go.Stop Go.Extern

namespace Is
/-- (rtype).Comparable's entry. -/
def cmpEntry : Array Value → Sem Value := Extern.ReflectliteType.method fun t => do Rtype.noPackHeld "Comparable" t; pure (.bool (← typeInfo t).comparable)
theorem typeOf (v : Value) (w : World) : (Extern.ReflectliteType.typeOf #[.iface 236 v]).run Tryz.prog w = .ok (.iface 144 (.agg #[.pointer (some ⟨27, 236, none⟩)])) w := by kernel_rfl
theorem comparable (w : World) : (cmpEntry #[.agg #[.pointer (some ⟨27, 236, none⟩)]]).run Tryz.prog w = .ok (.bool true) w := by kernel_rfl
theorem methodComparable (v : Value) (w : World) : (Go.method 368 144 v "Comparable").run Tryz.prog w = .ok (206, v) w := by kernel_rfl
theorem comp : (Tryz.prog.info? 236).map (·.comparable) = some true := by kernel_rfl
theorem size : (Tryz.prog.info? 256).map (·.size) = some 1 := by kernel_rfl
theorem noIsF (v : Value) (xT : TypeId) (w : World) : (Instr.typeAssert (.iface 67 v) xT 156 true).run Tryz.prog w = .ok (.tuple #[.nilIface, .bool false]) w := run_typeAssert_lacksB Tryz.underlying156 (by kernel_rfl) (by kernel_rfl) v xT w
theorem hasUnwrapF (v : Value) (xT : TypeId) (w : World) : (Instr.typeAssert (.iface 67 v) xT 151 true).run Tryz.prog w = .ok (.tuple #[.iface 67 v, .bool true]) w := run_typeAssert_hasB Tryz.underlying151 (by kernel_rfl) v xT w
theorem methodUnwrap (v : Value) (w : World) : (Go.method 368 67 v "Unwrap").run Tryz.prog w = .ok (200, v) w := by kernel_rfl
end Is

set_option maxHeartbeats 1000000 in
/-- errors.Is(e, x), e a *api.Fault that wraps x itself: true. -/
theorem is_fault (pb po : Nat) (b : Addr) (w : World) (h1 : w.cell? ⟨pb, po + 1, none⟩ = some (.iface 236 (.pointer (some b)))) :
    Calls Tryz.prog 32 #[.iface 67 (.pointer (some ⟨pb, po, none⟩)), .iface 236 (.pointer (some b))] w fun e w' => e = .returned (.bool true) ∧ w = w' := by
  obtain ⟨i, hi, hcmp⟩ := Option.map_eq_some_iff.1 Is.comp
  obtain ⟨j, hj, hjs⟩ := Option.map_eq_some_iff.1 Is.size
  have h8 := @run_callFunc_extern Tryz.prog 56 _ Extern.ReflectliteType.typeOf Tryz.func56 (by kernel_rfl) (by kernel_rfl) (by kernel_rfl) (by kernel_rfl)
  have h32 := @run_callFunc_extern Tryz.prog 206 _ Is.cmpEntry Tryz.func206 (by kernel_rfl) (by kernel_rfl) (by kernel_rfl) (by kernel_rfl)
  have tT := Is.typeOf
  have cT := Is.comparable
  have mR := Is.methodComparable
  have nW := Is.noIsF
  have uW := Is.hasUnwrapF
  have mU := Is.methodUnwrap
  have heq := run_eql_iface_ptr_same (P := Tryz.prog) w b Tryz.underlying30 Tryz.underlying236 hi hcmp hj
  have hty := run_eql_iface_types (P := Tryz.prog) 67 236 (.pointer (some ⟨pb, po, none⟩)) (.pointer (some b)) Tryz.underlying30 (by decide) w
  go_enter Tryz.func32, Tryz.ntmps32
  go_wp2
  refine wp_loop_rounds 2 ?_
  rw [rounds_succ]
  go_wp2
  rw [rounds_succ]
  go_wp2
  go_ret
  exact ⟨rfl, rfl⟩
end Go.Proofs.YtlnehhfljjeifaaGreatDoor

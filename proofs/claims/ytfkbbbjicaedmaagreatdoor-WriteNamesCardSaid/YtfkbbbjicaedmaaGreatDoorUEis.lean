/- errors.Is at a sentinel of errors.New's make: nil; a *strconv.NumError that wraps it. No condition. (6: the number of package-level variables; 301: that of types, and 100.) -/
import Derived.Test.YtfkbbbjicaedmaaGreatDoorProg
import Derived.WalkKit
import Derived.LaidEql
import Derived.Stop.Asserts
import Derived.RowKitTokens
namespace Go.Proofs.YtfkbbbjicaedmaaGreatDoor
open Go.RowKit Go.Extern.Stop Go.Stop Go.Extern
theorem Es.isTypeOf (v : Value) (w : World) : (Extern.ReflectliteType.typeOf #[.iface 167 v]).run Tryz.prog w = .ok (.iface 152 (.agg #[.pointer (some ⟨6, 167, none⟩)])) w := by kernel_rfl
theorem Es.isComparable : ∃ mf : Array Value → Sem Value, Extern.find Tryz.f164 = some mf ∧ ∀ w, (mf #[.agg #[.pointer (some ⟨6, 167, none⟩)]]).run Tryz.prog w = .ok (.bool true) w := ⟨Extern.ReflectliteType.method fun t => do Extern.Rtype.noPackHeld "Comparable" t; pure (.bool (← typeInfo t).comparable), by kernel_rfl, fun w => by kernel_rfl⟩
theorem Es.isMethodComparable (v : Value) (w : World) : (Go.method 301 152 v "Comparable").run Tryz.prog w = .ok (164, v) w := by kernel_rfl
theorem Es.isComp : (Tryz.prog.info? 167).map (·.comparable) = some true := by kernel_rfl
theorem Es.isSize : (Tryz.prog.info? 169).map (·.size) = some 1 := by kernel_rfl
theorem Es.noIsW (v : Value) (xT : TypeId) (w : World) : (Instr.typeAssert (.iface 148 v) xT 154 true).run Tryz.prog w = .ok (.tuple #[.nilIface, .bool false]) w := run_typeAssert_lacksB Tryz.underlying154 (by kernel_rfl) (by kernel_rfl) v xT w
theorem Es.hasUnwrapW (v : Value) (xT : TypeId) (w : World) : (Instr.typeAssert (.iface 148 v) xT 157 true).run Tryz.prog w = .ok (.tuple #[.iface 148 v, .bool true]) w := run_typeAssert_hasB Tryz.underlying157 (by kernel_rfl) v xT w
theorem Es.methodUnwrap (v : Value) (w : World) : (Go.method 301 148 v "Unwrap").run Tryz.prog w = .ok (160, v) w := by kernel_rfl
theorem is_nil (b : Addr) (w : World) :
    Calls Tryz.prog 114 #[.nilIface, .iface 167 (.pointer (some b))] w fun e w' => e = .returned (.bool false) ∧ w' = w := by
  have hn := run_eql_iface_nil_left (P := Tryz.prog) w 167 (.pointer (some b)) Tryz.underlying59
  go_enter Tryz.func114, Tryz.ntmps114
  go_wp2
  go_ret
  exact ⟨rfl, rfl⟩
theorem is_num (pb : Nat) (b : Addr) (w : World) (h1 : w.cell? ⟨pb, 2, none⟩ = some (.iface 167 (.pointer (some b)))) :
    Calls Tryz.prog 114 #[.iface 148 (.pointer (some ⟨pb, 0, none⟩)), .iface 167 (.pointer (some b))] w fun e w' => e = .returned (.bool true) ∧ w' = w := by
  obtain ⟨i, hi, hcmp⟩ := Option.map_eq_some_iff.1 Es.isComp
  obtain ⟨j, hj, hjs⟩ := Option.map_eq_some_iff.1 Es.isSize
  have h8 := @run_callFunc_extern Tryz.prog 122 _ Extern.ReflectliteType.typeOf Tryz.func122 (by kernel_rfl) (by kernel_rfl) (by kernel_rfl) (by kernel_rfl)
  obtain ⟨mf, hmf, cT⟩ := Es.isComparable
  have h32 := @run_callFunc_extern Tryz.prog 164 _ mf Tryz.func164 (by kernel_rfl) (by kernel_rfl) (by kernel_rfl) hmf
  clear hmf
  have tT := Es.isTypeOf
  have mR := Es.isMethodComparable
  have nW := Es.noIsW
  have uW := Es.hasUnwrapW
  have mU := Es.methodUnwrap
  have heq := run_eql_iface_ptr_same (P := Tryz.prog) w b Tryz.underlying59 Tryz.underlying167 hi hcmp hj
  have hty := run_eql_iface_types (P := Tryz.prog) 148 167 (.pointer (some ⟨pb, 0, none⟩)) (.pointer (some b)) Tryz.underlying59 (by decide) w
  go_enter Tryz.func114, Tryz.ntmps114
  go_wp2
  refine wp_loop_rounds 2 ?_
  rw [rounds_succ]
  go_wp2
  rw [rounds_succ]
  go_wp2
  go_ret
  exact ⟨rfl, rfl⟩
end Go.Proofs.YtfkbbbjicaedmaaGreatDoor

/- errors.As at a fault of package fault, at the target type of find: the closed facts on the entries for internal/reflectlite. No condition. (7: the number of package-level variables; 278: that of types, and 100.) -/
import Derived.Test.YtjaaoljfkbbjpaaGreatDoorProg
import Derived.WalkKit
import Derived.LaidEql
import Derived.Stop.Asserts
import Derived.RowKitTokens
import Derived.Deep.LoopGhost
namespace Go.Proofs.YtjaaoljfkbbjpaaGreatDoor
open Go.RowKit Go.Extern.Stop Go.Stop Go.Extern

theorem Er.valueOf27 (t : Addr) (w : World) : (ReflectliteValue.unpack (.iface 68 (.pointer (some t)))).run Tryz.prog w
    = .ok (.agg #[.pointer (some ⟨7, 68, none⟩), .pointer (some ⟨w.heap.size, 0, none⟩), .int .u64 150]) (w.alloc (.cells #[.pointer (some t)] 68)) := by kernel_rfl
theorem Er.type27 (a : Addr) (w : World) : (ReflectliteValue.methodAny (ReflectliteValue.valueError "reflectlite.Value.Type" 0) (fun t _ _ _ => ReflectliteType.toType t) #[.agg #[.pointer (some ⟨7, 68, none⟩), .pointer (some a), .int .u64 150]]).run Tryz.prog w
    = .ok (.iface 101 (.agg #[.pointer (some ⟨7, 68, none⟩)])) w := by kernel_rfl
theorem Er.methodKind (h : Value) (w : World) : (Go.method 278 101 (.agg #[h]) "Kind").run Tryz.prog w = .ok (123, h) w := by kernel_rfl
theorem Er.kind27 (w : World) : ((ReflectliteType.abiMethod fun t => (fun a : Nat => Value.int IntKind.u8 (a : Int)) <$> Rtype.kind t) #[.pointer (some ⟨7, 68, none⟩)]).run Tryz.prog w = .ok (.int .u8 22) w := by kernel_rfl
theorem Er.kind25 (w : World) : ((ReflectliteType.abiMethod fun t => (fun a : Nat => Value.int IntKind.u8 (a : Int)) <$> Rtype.kind t) #[.pointer (some ⟨7, 55, none⟩)]).run Tryz.prog w = .ok (.int .u8 22) w := by kernel_rfl

theorem Er.parts27 (a : Addr) (w : World) : (ReflectliteValue.parts (.agg #[.pointer (some ⟨7, 68, none⟩), .pointer (some a), .int .u64 150])).run Tryz.prog w = .ok (some (68, a, 150)) w := by kernel_rfl
theorem Er.isNil27 (a p : Addr) (W : World) (ha : W.cell? a = some (.pointer (some p))) :
    (ReflectliteValue.method (ReflectliteValue.valueError "reflectlite.Value.IsNil" 0) ReflectliteValue.isNil #[.agg #[.pointer (some ⟨7, 68, none⟩), .pointer (some a), .int .u64 150]]).run Tryz.prog W = .ok (.bool false) W := by
  change (ReflectliteValue.parts (.agg #[.pointer (some ⟨7, 68, none⟩), .pointer (some a), .int .u64 150]) >>= _).run _ _ = _
  simp only [Sem.run_bind, Er.parts27, Result.andThen]
  simp [ReflectliteValue.isNil, loadVar, isAgg, underlying, Tryz.underlying68, ha, Result.andThen]

theorem Er.methodElem (h : Value) (w : World) : (Go.method 278 101 (.agg #[h]) "Elem").run Tryz.prog w = .ok (134, .agg #[h]) w := by kernel_rfl
theorem Er.methodImplements (h : Value) (w : World) : (Go.method 278 101 (.agg #[h]) "Implements").run Tryz.prog w = .ok (135, .agg #[h]) w := by kernel_rfl
theorem Er.methodAssignableTo (h : Value) (w : World) : (Go.method 278 101 (.agg #[h]) "AssignableTo").run Tryz.prog w = .ok (132, .agg #[h]) w := by kernel_rfl
theorem Er.elem27 (w : World) : (ReflectliteType.method ReflectliteType.elem #[.agg #[.pointer (some ⟨7, 68, none⟩)]]).run Tryz.prog w = .ok (.iface 101 (.agg #[.pointer (some ⟨7, 55, none⟩)])) w := by kernel_rfl
theorem Er.implements25 (w : World) : (ReflectliteType.relation "Implements" ReflectliteType.implements_ #[.agg #[.pointer (some ⟨7, 55, none⟩)], .iface 101 (.agg #[.pointer (some ⟨7, 28, none⟩)])]).run Tryz.prog w = .ok (.bool true) w := by kernel_rfl
theorem Er.typeOf25 (v : Value) (w : World) : (ReflectliteType.typeOf #[.iface 55 v]).run Tryz.prog w = .ok (.iface 101 (.agg #[.pointer (some ⟨7, 55, none⟩)])) w := by kernel_rfl
theorem Er.assignable25 (w : World) : (ReflectliteType.relation "AssignableTo" ReflectliteType.assignableTo #[.agg #[.pointer (some ⟨7, 55, none⟩)], .iface 101 (.agg #[.pointer (some ⟨7, 55, none⟩)])]).run Tryz.prog w = .ok (.bool true) w := by kernel_rfl
theorem Er.valueOf25 (e : Addr) (w : World) : (ReflectliteValue.unpack (.iface 55 (.pointer (some e)))).run Tryz.prog w
    = .ok (.agg #[.pointer (some ⟨7, 55, none⟩), .pointer (some ⟨w.heap.size, 0, none⟩), .int .u64 150]) (w.alloc (.cells #[.pointer (some e)] 55)) := by kernel_rfl

theorem Er.elemOf27 (w : World) : (Rtype.elem? 68).run Tryz.prog w = .ok (some 55) w := by kernel_rfl
theorem Er.mk25 (p : Addr) (w : World) : (ReflectliteValue.mk 55 p ReflectliteValue.flagAddr).run Tryz.prog w = .ok (.agg #[.pointer (some ⟨7, 55, none⟩), .pointer (some p), .int .u64 406]) w := by kernel_rfl
theorem Er.elemV27 (a p : Addr) (W : World) (ha : W.cell? a = some (.pointer (some p))) :
    (ReflectliteValue.method (ReflectliteValue.valueError "reflectlite.Value.Elem" 0) ReflectliteValue.elem #[.agg #[.pointer (some ⟨7, 68, none⟩), .pointer (some a), .int .u64 150]]).run Tryz.prog W
      = .ok (.agg #[.pointer (some ⟨7, 55, none⟩), .pointer (some p), .int .u64 406]) W := by
  change (ReflectliteValue.parts (.agg #[.pointer (some ⟨7, 68, none⟩), .pointer (some a), .int .u64 150]) >>= _).run _ _ = _
  simp only [Sem.run_bind, Er.parts27, Result.andThen]
  simp [ReflectliteValue.elem, loadVar, isAgg, underlying, Tryz.underlying68, ha, Result.andThen, Er.elemOf27, Er.mk25]
theorem Er.parts25a (a : Addr) (w : World) : (ReflectliteValue.parts (.agg #[.pointer (some ⟨7, 55, none⟩), .pointer (some a), .int .u64 406])).run Tryz.prog w = .ok (some (55, a, 406)) w := by kernel_rfl
theorem Er.parts25 (a : Addr) (w : World) : (ReflectliteValue.parts (.agg #[.pointer (some ⟨7, 55, none⟩), .pointer (some a), .int .u64 150])).run Tryz.prog w = .ok (some (55, a, 150)) w := by kernel_rfl
theorem Er.direct25 (w : World) : (Rtype.directlyAssignable 55 55).run Tryz.prog w = .ok true w := by kernel_rfl
theorem Er.size25 (w : World) : (sizeOf 55).run Tryz.prog w = .ok 1 w := by kernel_rfl
theorem Er.set25 (ta b e : Addr) (old : Value) (W : World) (hb : W.cell? b = some (.pointer (some e))) (ht : W.cell? ta = some old) (hf : W.frozen? ta = false) :
    (ReflectliteValue.set #[.agg #[.pointer (some ⟨7, 55, none⟩), .pointer (some ta), .int .u64 406], .agg #[.pointer (some ⟨7, 55, none⟩), .pointer (some b), .int .u64 150]]).run Tryz.prog W
      = .ok (.tuple #[]) (W.setCell ta (.pointer (some e))) := by
  change (ReflectliteValue.parts (.agg #[.pointer (some ⟨7, 55, none⟩), .pointer (some ta), .int .u64 406]) >>= fun x => ReflectliteValue.parts (.agg #[.pointer (some ⟨7, 55, none⟩), .pointer (some b), .int .u64 150]) >>= _).run _ _ = _
  simp only [Sem.run_bind, Er.parts25a, Er.parts25, Result.andThen]
  simp [ReflectliteValue.flagAddr, loadVar, isAgg, underlying, Tryz.underlying55, hb, Result.andThen, Er.direct25, storeVar, Value.cells, storeCells, Addr.add]
  rw [run_store Tryz.prog W ta _ _ (by rfl)]
  simp [ht, hf]


end Go.Proofs.YtjaaoljfkbbjpaaGreatDoor

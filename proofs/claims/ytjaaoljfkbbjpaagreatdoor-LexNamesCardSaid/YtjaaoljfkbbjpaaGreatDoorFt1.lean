/- errors.As finds a fault, at the target type of find. Conditions: the variable errors.errorType holds the handle of error; the target's variable is there. -/
import Derived.Test.YtjaaoljfkbbjpaaGreatDoorFt0
namespace Go.Proofs.YtjaaoljfkbbjpaaGreatDoor
open Go.RowKit Go.Extern.Stop Go.Stop Go.Extern

theorem lt_cell {w : World} {a : Addr} {v : Value} (h : w.cell? a = some v) : a.block < w.heap.size := by
  rcases Nat.lt_or_ge a.block w.heap.size with h1 | h1
  · exact h1
  · simp [World.cell?, Array.getElem?_eq_none h1] at h

set_option maxRecDepth 100000 in
set_option maxHeartbeats 4000000 in
theorem as_fault (tgt : Value) (fa t : Addr) (b : Nat) (old : Value) (w : World)
    (hb : w.cell? ⟨b, 0, none⟩ = some (.pointer (some t))) (ht : w.cell? t = some old) (hf : w.frozen? t = false) :
    Calls Tryz.prog 68 #[.iface 55 (.pointer (some fa)), tgt, .agg #[.pointer (some ⟨7, 68, none⟩), .pointer (some ⟨b, 0, none⟩), .int .u64 150], .iface 101 (.agg #[.pointer (some ⟨7, 55, none⟩)])] w
      fun ev w' => ev = .returned (.bool true) ∧ w' = ((w.alloc (.cells #[.pointer (some ⟨7, 68, none⟩), .pointer (some ⟨b, 0, none⟩), .int .u64 150] 84)).alloc (.cells #[.pointer (some fa)] 55)).setCell t (.pointer (some fa)) := by
  have h33 := @run_callFunc_extern Tryz.prog 78 _ ReflectliteType.typeOf Tryz.func78 (by kernel_rfl) (by kernel_rfl) (by kernel_rfl) (by kernel_rfl)
  have h82 := @run_callFunc_extern Tryz.prog 132 _ (ReflectliteType.relation "AssignableTo" ReflectliteType.assignableTo) Tryz.func132 (by kernel_rfl) (by kernel_rfl) (by kernel_rfl) (by kernel_rfl)
  have tO := Er.typeOf25
  have mA := Er.methodAssignableTo
  have aF := Er.assignable25
  go_enter Tryz.func68, Tryz.ntmps68
  go_wp2
  go_loopg [0] 0 (fun k e' wr => e' = .iface 55 (.pointer (some fa)) ∧ wr = w.alloc (.cells #[.pointer (some ⟨7, 68, none⟩), .pointer (some ⟨b, 0, none⟩), .int .u64 150] 84))
  case atStart => exact ⟨rfl, rfl⟩
  case round =>
    obtain ⟨rfl, rfl⟩ := hrel
    have h35 := @run_callFunc_extern Tryz.prog 65 _ (fun args => ReflectliteValue.unpack (args.getD 0 (.tuple #[]))) Tryz.func65 (by kernel_rfl) (by kernel_rfl) (by kernel_rfl) (by kernel_rfl)
    have h40 := @run_callFunc_extern Tryz.prog 80 _ (ReflectliteValue.method (ReflectliteValue.valueError "reflectlite.Value.Elem" 0) ReflectliteValue.elem) Tryz.func80 (by kernel_rfl) (by kernel_rfl) (by kernel_rfl) (by kernel_rfl)
    have h41 := @run_callFunc_extern Tryz.prog 81 _ ReflectliteValue.set Tryz.func81 (by kernel_rfl) (by kernel_rfl) (by kernel_rfl) (by kernel_rfl)
    have v42 := Er.valueOf25
    have el := Er.elemV27 ⟨b, 0, none⟩ t (w.alloc (.cells #[.pointer (some ⟨7, 68, none⟩), .pointer (some ⟨b, 0, none⟩), .int .u64 150] 84)) (by rw [World.cell?_alloc_lt _ _ _ (lt_cell hb)]; exact hb)
    have st := Er.set25 t ⟨w.heap.size + 1, 0, none⟩ fa old ((w.alloc (.cells #[.pointer (some ⟨7, 68, none⟩), .pointer (some ⟨b, 0, none⟩), .int .u64 150] 84)).alloc (.cells #[.pointer (some fa)] 55))
      (by rw [World.cell?_alloc_at _ _ _ _ (by simp)]; rfl)
      (by rw [World.cell?_alloc_lt _ _ t (by simp; have := lt_cell ht; omega), World.cell?_alloc_lt _ _ t (lt_cell ht)]; exact ht)
      (by rw [World.frozen?_alloc_old _ _ t (by simp; have := lt_cell ht; omega), World.frozen?_alloc_old _ _ t (Nat.ne_of_lt (lt_cell ht))]; exact hf)
    go_wp2
    go_ret
    exact ⟨rfl, rfl⟩

/-- What errors.As leaves: four new blocks, and the target's variable set. -/
def asWorld (w : World) (t fa : Addr) : World :=
  ((((w.alloc (.cells #[.pointer (some t)] 68)).alloc (.cells #[.pointer (some ⟨7, 68, none⟩), .pointer (some ⟨w.heap.size, 0, none⟩), .int .u64 150] 84)).alloc (.cells #[.pointer (some ⟨7, 68, none⟩), .pointer (some ⟨w.heap.size, 0, none⟩), .int .u64 150] 84)).alloc (.cells #[.pointer (some fa)] 55)).setCell t (.pointer (some fa))

set_option maxRecDepth 100000 in
set_option maxHeartbeats 4000000 in
theorem asTop_fault (fa t : Addr) (old : Value) (w : World)
    (hg : w.cell? ⟨1, 0, none⟩ = some (.iface 101 (.agg #[.pointer (some ⟨7, 28, none⟩)]))) (ht : w.cell? t = some old) (hf : w.frozen? t = false) :
    Calls Tryz.prog 45 #[.iface 55 (.pointer (some fa)), .iface 68 (.pointer (some t))] w fun ev w' => ev = .returned (.bool true) ∧ w' = asWorld w t fa := by
  have h35 := @run_callFunc_extern Tryz.prog 65 _ (fun args => ReflectliteValue.unpack (args.getD 0 (.tuple #[]))) Tryz.func65 (by kernel_rfl) (by kernel_rfl) (by kernel_rfl) (by kernel_rfl)
  have h36 := @run_callFunc_extern Tryz.prog 66 _ (ReflectliteValue.methodAny (ReflectliteValue.valueError "reflectlite.Value.Type" 0) (fun t _ _ _ => ReflectliteType.toType t)) Tryz.func66 (by kernel_rfl) (by kernel_rfl) (by kernel_rfl) (by kernel_rfl)
  have h37 := @run_callFunc_extern Tryz.prog 67 _ (ReflectliteValue.method (ReflectliteValue.valueError "reflectlite.Value.IsNil" 0) ReflectliteValue.isNil) Tryz.func67 (by kernel_rfl) (by kernel_rfl) (by kernel_rfl) (by kernel_rfl)
  have h56 := @run_callFunc_extern Tryz.prog 123 _ (ReflectliteType.abiMethod fun t => do pure (.int .u8 (← Rtype.kind t))) Tryz.func123 (by kernel_rfl) (by kernel_rfl) (by kernel_rfl) (by kernel_rfl)
  have h84 := @run_callFunc_extern Tryz.prog 134 _ (ReflectliteType.method ReflectliteType.elem) Tryz.func134 (by kernel_rfl) (by kernel_rfl) (by kernel_rfl) (by kernel_rfl)
  have h85 := @run_callFunc_extern Tryz.prog 135 _ (ReflectliteType.relation "Implements" ReflectliteType.implements_) Tryz.func135 (by kernel_rfl) (by kernel_rfl) (by kernel_rfl) (by kernel_rfl)
  have f35 := Er.valueOf27
  have f36 := Er.type27
  have mK := Er.methodKind
  have mE := Er.methodElem
  have mI := Er.methodImplements
  have k60 := Er.kind27
  have k42 := Er.kind25
  have e60 := Er.elem27
  have i42 := Er.implements25
  have n37 := Er.isNil27 ⟨w.heap.size, 0, none⟩ t ((w.alloc (.cells #[.pointer (some t)] 68)).alloc (.cells #[.pointer (some ⟨7, 68, none⟩), .pointer (some ⟨w.heap.size, 0, none⟩), .int .u64 150] 84)) (by simp)
  have hlt := lt_cell hg
  have hg2 : ((w.alloc (.cells #[.pointer (some t)] 68)).alloc (.cells #[.pointer (some ⟨7, 68, none⟩), .pointer (some ⟨w.heap.size, 0, none⟩), .int .u64 150] 84)).cell? ⟨1, 0, none⟩ = some (.iface 101 (.agg #[.pointer (some ⟨7, 28, none⟩)])) := by
    rw [World.cell?_alloc_lt _ _ ⟨1, 0, none⟩ (by simp; omega), World.cell?_alloc_lt _ _ ⟨1, 0, none⟩ hlt]; exact hg
  have htl := lt_cell ht
  have as2 := as_fault (.iface 68 (.pointer (some t))) fa t w.heap.size old ((w.alloc (.cells #[.pointer (some t)] 68)).alloc (.cells #[.pointer (some ⟨7, 68, none⟩), .pointer (some ⟨w.heap.size, 0, none⟩), .int .u64 150] 84))
    (by rw [World.cell?_alloc_lt _ _ _ (by simp)]; simp) (by rw [World.cell?_alloc_lt _ _ t (by simp; omega), World.cell?_alloc_lt _ _ t htl]; exact ht)
    (by rw [World.frozen?_alloc_old _ _ t (by simp; omega), World.frozen?_alloc_old _ _ t (Nat.ne_of_lt htl)]; exact hf)
  go_enter Tryz.func45, Tryz.ntmps45
  go_wp2_with (go_at_call 68; refine as2.mono ?_; rintro e w' ⟨rfl, rfl⟩)
  go_ret
  exact ⟨rfl, rfl⟩
end Go.Proofs.YtjaaoljfkbbjpaaGreatDoor

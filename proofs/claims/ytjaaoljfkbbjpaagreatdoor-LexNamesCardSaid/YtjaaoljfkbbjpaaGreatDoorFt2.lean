/- The functions of package fault that look for the fault within an error: New, find, Code, At. Conditions: the error is nil or a fault; the variable errors.errorType holds the handle of error. -/
import Derived.Test.YtjaaoljfkbbjpaaGreatDoorFt1
import Derived.Defers
import Derived.Recover
import Derived.Below
namespace Go.Proofs.YtjaaoljfkbbjpaaGreatDoor
open Go.RowKit Go.Extern.Stop Go.Stop Go.Extern

/-- The closure that find defers, where nothing panicked. -/
theorem find_idle (p : Addr) (w : World) :
    CallsD Tryz.prog 44 #[.pointer (some p)] .returning w fun e u' w' => e = .returned (.tuple #[]) ∧ u' = .returning ∧ w' = w := by
  refine callsD_of_wpS Tryz.func44 rfl fun c₀ cs hu => ?_
  apply wpS_seq
  apply wpS_region
  simp [wpOpsS, go_sem, recoverD, hu, Tryz.ntmps44, Exit.thenS]
  refine wpS_cond (t := false) (by simp [Act.eval, Array.replicate]) ?_
  simp only [Bool.false_eq_true, if_false]
  refine wpS_of_wp (wp_skip ?_)
  cases c₀
  simp_all [bodyPostS, results, Tryz.results44]

theorem as_none (t : Value) (w : World) :
    Calls Tryz.prog 45 #[.nilIface, t] w fun e w' => e = .returned (.bool false) ∧ w' = w := by
  go_enter Tryz.func45, Tryz.ntmps45
  go_wp2
  go_ret
  exact ⟨rfl, rfl⟩

theorem new_ok (at' : Int) (w : World) : Calls Tryz.prog 22 #[.int .i64 0, .int .i64 at'] w fun e w' => e = .returned .nilIface ∧ w' = w := by
  go_enter Tryz.func22, Tryz.ntmps22
  go_wp2
  go_ret
  exact ⟨rfl, rfl⟩
theorem new_some (code at' : Int) (h : ¬ code = 0) (w : World) : Calls Tryz.prog 22 #[.int .i64 code, .int .i64 at'] w
    fun e w' => e = .returned (.iface 55 (.pointer (some ⟨w.heap.size, 0, none⟩))) ∧ w' = w.alloc (.cells #[.int .i64 code, .int .i64 at'] 58) := by
  go_enter Tryz.func22, Tryz.ntmps22
  go_wp2
  go_ret
  exact ⟨rfl, rfl⟩
set_option maxRecDepth 100000 in
set_option maxHeartbeats 1600000 in
theorem find_fault (fa : Addr) (w : World)
    (hg : w.cell? ⟨1, 0, none⟩ = some (.iface 101 (.agg #[.pointer (some ⟨7, 28, none⟩)]))) :
    Calls Tryz.prog 26 #[.iface 55 (.pointer (some fa))] w fun ev w' => ev = .returned (.pointer (some fa)) ∧ Below w.heap.size w w' := by
  have hmf : ∀ (fn : Fn) (first cap : Array Value) (w : World), (Instr.makeFunc fn first cap).run Tryz.prog w = .ok (.func fn first cap) w := fun _ _ _ _ => rfl
  have ha := asTop_fault fa ⟨w.heap.size, 0, none⟩ (.pointer none) (w.alloc (.cells #[.pointer none] 55)) (by rw [World.cell?_alloc_lt _ _ _ (lt_cell hg)]; exact hg) (by simp) (by simp)
  have hc : (asWorld (w.alloc (.cells #[.pointer none] 55)) ⟨w.heap.size, 0, none⟩ fa).cell? ⟨w.heap.size, 0, none⟩ = some (.pointer (some fa)) := by
    unfold asWorld
    simp [go_sem]
  have hz : (asWorld (w.alloc (.cells #[.pointer none] 55)) ⟨w.heap.size, 0, none⟩ fa).frozen? ⟨w.heap.size, 0, none⟩ = false := by
    unfold asWorld
    simp [go_sem]
  have hb : Below w.heap.size w (asWorld (w.alloc (.cells #[.pointer none] 55)) ⟨w.heap.size, 0, none⟩ fa) := by
    unfold asWorld
    exact (((((Below.refl w.heap.size w).alloc (Nat.le_refl _) _ |>.alloc (by simp) _).alloc (by simp; omega) _).alloc (by simp; omega) _).alloc (by simp; omega) _).setCell (Nat.le_refl _) _
  generalize asWorld (w.alloc (.cells #[.pointer none] 55)) ⟨w.heap.size, 0, none⟩ fa = W at ha hc hz hb
  go_enter_defers Tryz.func26, Tryz.ntmps26
  go_wp2_with (go_at_call 45; refine ha.mono ?_; rintro e w' ⟨rfl, rfl⟩)
  refine leaves_cons (f := 44) (args := #[.pointer (some ⟨w.heap.size, 0, none⟩)]) (by simp) (by simp [go_sem]) ?_
  refine (find_idle ⟨w.heap.size, 0, none⟩ _).mono ?_
  rintro e u' w'' ⟨rfl, rfl, rfl⟩
  simp [Leaves, settle, results, Tryz.results26, go_sem]
  exact ⟨_, by rw [World.cell?_setCell_same _ _ _ hc], rfl, hb.setCell (Nat.le_refl _) _⟩

set_option maxRecDepth 100000 in
set_option maxHeartbeats 1600000 in
theorem find_none (w : World) : Calls Tryz.prog 26 #[.nilIface] w fun ev w' => ev = .returned (.pointer none) ∧ Below w.heap.size w w' := by
  have hmf : ∀ (fn : Fn) (first cap : Array Value) (w : World), (Instr.makeFunc fn first cap).run Tryz.prog w = .ok (.func fn first cap) w := fun _ _ _ _ => rfl
  go_enter_defers Tryz.func26, Tryz.ntmps26
  go_wp2_with (go_at_call 45; refine (as_none _ _).mono ?_; rintro e w' ⟨rfl, rfl⟩)
  refine leaves_cons (f := 44) (args := #[.pointer (some ⟨w.heap.size, 0, none⟩)]) (by simp) (by simp [go_sem]) ?_
  refine (find_idle ⟨w.heap.size, 0, none⟩ _).mono ?_
  rintro e u' w'' ⟨rfl, rfl, rfl⟩
  simp [Leaves, settle, results, Tryz.results26, go_sem]
  exact ((Below.refl w.heap.size w).alloc (Nat.le_refl _) _)

/-- Code tells a fault's own code. -/
theorem code_fault (fa : Addr) (c : Int) (w : World) (hc : w.cell? fa = some (.int .i64 c))
    (hg : w.cell? ⟨1, 0, none⟩ = some (.iface 101 (.agg #[.pointer (some ⟨7, 28, none⟩)]))) :
    Calls Tryz.prog 18 #[.iface 55 (.pointer (some fa))] w fun ev w' => ev = .returned (.int .i64 c) ∧ Below w.heap.size w w' := by
  have hf := find_fault fa w hg
  go_enter Tryz.func18, Tryz.ntmps18
  go_wp2_with (go_at_call 26; refine hf.mono ?_; rintro e w' ⟨rfl, hB⟩; have hc2 := (hB.cell (lt_cell hc)).trans hc)
  go_ret
  exact ⟨rfl, by assumption⟩
theorem code_none (w : World) : Calls Tryz.prog 18 #[.nilIface] w fun ev w' => ev = .returned (.int .i64 0) ∧ w' = w := by
  go_enter Tryz.func18, Tryz.ntmps18
  go_wp2
  go_ret
  exact ⟨rfl, rfl⟩

/-- At tells a fault's own place. -/
theorem at_fault (b : Nat) (p : Int) (w : World) (hc : w.cell? ⟨b, 1, none⟩ = some (.int .i64 p))
    (hg : w.cell? ⟨1, 0, none⟩ = some (.iface 101 (.agg #[.pointer (some ⟨7, 28, none⟩)]))) :
    Calls Tryz.prog 16 #[.iface 55 (.pointer (some ⟨b, 0, none⟩))] w fun ev w' => ev = .returned (.int .i64 p) ∧ Below w.heap.size w w' := by
  have hf := find_fault ⟨b, 0, none⟩ w hg
  go_enter Tryz.func16, Tryz.ntmps16
  go_wp2_with (go_at_call 26; refine hf.mono ?_; rintro e w' ⟨rfl, hB⟩; have hc2 := (hB.cell (lt_cell hc)).trans hc)
  go_ret
  exact ⟨rfl, by assumption⟩
theorem at_none (w : World) : Calls Tryz.prog 16 #[.nilIface] w fun ev w' => ev = .returned (.int .i64 0) ∧ Below w.heap.size w w' := by
  go_enter Tryz.func16, Tryz.ntmps16
  go_wp2_with (go_at_call 26; refine (find_none _).mono ?_; rintro e w' ⟨rfl, hB⟩)
  go_ret
  exact ⟨rfl, by assumption⟩
end Go.Proofs.YtjaaoljfkbbjpaaGreatDoor

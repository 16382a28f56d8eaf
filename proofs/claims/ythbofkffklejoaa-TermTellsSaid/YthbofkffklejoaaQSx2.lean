/-
  Package term's contracts, each with its answer named. No condition.
-/
import Derived.Test.YthbofkffklejoaaQMQ
namespace Go.Proofs.Ythbofkffklejoaa
open Go.RowKit Go.Maps
set_option linter.unusedVariables false
set_option linter.unusedSimpArgs false
section
variable {w : World} {t u x : Tm} {a b : Option Addr} {c d : Nat}
theorem check_t (hT : TmAt w.heap.size w t a c) (h : t.right = true) : Calls Try.prog 15 #[tv t a c] w fun e w' => e = .returned (.int .i64 0) ∧ Keep (fun g => g < w.heap.size) w w' := by
  have := check_any hT; rw [h] at this; exact this
theorem check_f (hT : TmAt w.heap.size w t a c) (h : t.right = false) : Calls Try.prog 15 #[tv t a c] w fun e w' => e = .returned (.int .i64 70) ∧ Keep (fun g => g < w.heap.size) w w' := by
  have := check_any hT; rw [h] at this; exact this
theorem order_sx {z : Int} (hT : TmAt w.heap.size w t a c) (hU : TmAt w.heap.size w u b d) (h : ordV t u = z) : Calls Try.prog 20 #[tv t a c, tv u b d] w fun e w' => e = .returned (.int .i64 z) ∧ Keep (fun g => g < w.heap.size) w w' := by
  subst h; exact Order_any hT hU
theorem same_sx {z : Bool} (hT : TmAt w.heap.size w t a c) (hU : TmAt w.heap.size w u b d) (h : sameV t u = z) : Calls Try.prog 19 #[tv t a c, tv u b d] w fun e w' => e = .returned (.bool z) ∧ Keep (fun g => g < w.heap.size) w w' := by
  subst h; exact Same_any hT hU
theorem variant_sx {z : Bool} (hT : TmAt w.heap.size w t a c) (hU : TmAt w.heap.size w u b d) (h : vtV t u = z) : Calls Try.prog 21 #[tv t a c, tv u b d] w fun e w' => e = .returned (.bool z) ∧ Keep (fun g => g < w.heap.size) w w' := by
  subst h; exact Variant_any hT hU
theorem size_sx {z : Int} (hT : TmAt w.heap.size w t a c) (h : t.size = z) : Calls Try.prog 16 #[tv t a c] w fun e w' => e = .returned (.int .i64 z) ∧ Keep (fun g => g < w.heap.size) w w' := by
  subst h; exact size_any hT
theorem depth_sx {z : Int} (hT : TmAt w.heap.size w t a c) (h : t.depth = z) : Calls Try.prog 17 #[tv t a c] w fun e w' => e = .returned (.int .i64 z) ∧ Keep (fun g => g < w.heap.size) w w' := by
  subst h; exact depth_any hT
theorem ik_wf {m : Int} (h1 : -9223372036854775808 ≤ m) (h2 : m ≤ 9223372036854775807) : (ik m).wf = true := by
  unfold Lit.wf
  have e1 : IntKind.i64.min = -9223372036854775808 := by decide
  have e2 : IntKind.i64.max = 9223372036854775807 := by decide
  simp [e1, e2]; omega
end
end Go.Proofs.Ythbofkffklejoaa

/-
  Package term's contracts, each with its answer named. No condition.
-/
import Derived.Test.YtmgephleogiaoaaNMQ
namespace Go.Proofs.Ytmgephleogiaoaa
open Go.RowKit Go.Maps
set_option linter.unusedVariables false
set_option linter.unusedSimpArgs false
section
variable {w:World} {t u x:Tm} {a b:Option Addr} {c d:Nat}
theorem check_t (hT:TmAt w.heap.size w t a c) (h:t.right=true):Calls Try.prog 26 #[tv t a c] w fun e w'=>e=.returned (.int .i64 0)∧Keep (fun g=>g < w.heap.size) w w':=by
  have:=check_any hT;rw [h] at this;exact this
theorem check_f (hT:TmAt w.heap.size w t a c) (h:t.right=false):Calls Try.prog 26 #[tv t a c] w fun e w'=>e=.returned (.int .i64 70)∧Keep (fun g=>g < w.heap.size) w w':=by
  have:=check_any hT;rw [h] at this;exact this
theorem ik_wf {m:Int} (h1:-9223372036854775808 ≤ m) (h2:m ≤ 9223372036854775807):(ik m).wf=true:=by
  unfold Lit.wf
  have e1:IntKind.i64.min=-9223372036854775808:=by decide
  have e2:IntKind.i64.max=9223372036854775807:=by decide
  simp [e1,e2];omega
end
end Go.Proofs.Ytmgephleogiaoaa

/-
  Solve's answer as a slice of bindings; the document's AlikeBinds begins. No condition.
-/
import Derived.Test.YtnfcbalppecnfaaGreatPSx4
import Derived.Test.YtnfcbalppecnfaaGreatPMM
import Derived.Test.YtnfcbalppecnfaaGreatPTp1
namespace Go.Proofs.YtnfcbalppecnfaaGreat
open Go.RowKit Go.Maps
set_option linter.unusedVariables false
set_option linter.unusedSimpArgs false
section
variable {w : World} {t u x : Tm} {a b : Option Addr} {c d : Nat}
theorem refsame_sx (hT : TmAt w.heap.size w t a c) (hU : TmAt w.heap.size w u b d) (ht : t.right = true) (hu : u.right = true) (he : t.tree = u.tree) : Calls Tryz.prog 33 #[tv t a c, tv u b d] w fun e w' => e = .returned (.bool true) ∧ Keep (fun g => g < w.heap.size) w w' := by
  have h1 := refSame_any hT hU (right_of.1 ht).1 (right_of.1 hu).1
  rw [he, ((T.lin _).zero _).2 rfl] at h1
  exact h1
end
end Go.Proofs.YtnfcbalppecnfaaGreat

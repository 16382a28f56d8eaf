/-
  Terms without variables; bindings that a term has no variable for. No condition.
-/
import Derived.Test.YthbofkffklejoaaQTp2
namespace Go.Proofs.Ythbofkffklejoaa
set_option linter.unusedVariables false
def notIn (l : List Int) (bs : List BP) : List BP := bs.filter (fun q => !among l q.1)
end Go.Proofs.Ythbofkffklejoaa

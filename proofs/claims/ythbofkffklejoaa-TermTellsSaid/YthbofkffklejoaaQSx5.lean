/-
  Solve's answer as a slice of bindings; the document's AlikeBinds begins. No condition.
-/
import Derived.Test.YthbofkffklejoaaQSx4
import Derived.Test.YthbofkffklejoaaQTp5
namespace Go.Proofs.Ythbofkffklejoaa
open Go.RowKit Go.Maps
set_option linter.unusedVariables false
set_option linter.unusedSimpArgs false
section
variable {w : World} {t u x : Tm} {a b : Option Addr} {c d : Nat}
end
end Go.Proofs.Ythbofkffklejoaa

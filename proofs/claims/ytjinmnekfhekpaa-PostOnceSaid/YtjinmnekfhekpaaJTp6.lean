/-
  Whatever bindings make two terms the same are the solution's, further bound. No condition.
-/
import Derived.Test.YtjinmnekfhekpaaJTp2
namespace Go.Proofs.Ytjinmnekfhekpaa
set_option linter.unusedVariables false
def bdT (bs:List BP):Int→T:=fun y=>match bdOf bs y with | some p=>p.1.tree | none=>.v y
end Go.Proofs.Ytjinmnekfhekpaa

/-
  Joined texts (Tv15, Tv16, Tv17). No condition.
-/
import Derived.Test.YtmgephleogiaoaaNMD
import Derived.Test.YtmgephleogiaoaaNMI
import Derived.Test.YtmgephleogiaoaaNMH
import Derived.Maps.RangeWalk
namespace Go.Proofs.Ytmgephleogiaoaa
open Go.RowKit Go.Maps
set_option linter.unusedVariables false
set_option linter.unusedSimpArgs false
section
variable {w:World} {i:Int} {nm:List UInt8}
end
end Go.Proofs.Ytmgephleogiaoaa
namespace Go.Proofs.Ytmgephleogiaoaa
open Go.RowKit Go.Maps
set_option linter.unusedVariables false
set_option linter.unusedSimpArgs false
section
variable {lo g mb gp cap:Nat} {ps:List Pt} {vs:List (Int × Nat)} {R rk:Nat→Nat}
variable {w wr w2:World} {qs0 qs q2:List Pt} {b6:Nat} {k i:Int} {nm:List UInt8} {ts:List T} {j:Nat} {ua:Option Addr} {uc:Nat} {tps:List TP} {a1:Option Addr} {c1:Nat} {t:T}
end
end Go.Proofs.Ytmgephleogiaoaa
namespace Go.Proofs.Ytmgephleogiaoaa
open Go.RowKit Go.Maps
set_option linter.unusedVariables false
set_option linter.unusedSimpArgs false
def Nd.wf (p:Nd):Prop:=(Lit.int .i64 p.i).wf=true∧p.nm.length ≤ maxLen
section
variable {lo g mb gp cap:Nat} {ps:List Pt} {vs:List (Int × Nat)} {R rk:Nat→Nat} {D:Nat→T}
end
end Go.Proofs.Ytmgephleogiaoaa

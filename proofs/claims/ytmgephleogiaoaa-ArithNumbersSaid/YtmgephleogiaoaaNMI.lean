/-
  Joined texts (Tv5, Tv6, Tv7, Tv8, Tv9). No condition.
-/
import Derived.Test.YtmgephleogiaoaaNMH
import Derived.Deep.RegionLaw
namespace Go.Proofs.Ytmgephleogiaoaa
open Go.RowKit Go.Maps
set_option linter.unusedVariables false
set_option linter.unusedSimpArgs false
section
variable {lo g mb:Nat} {w w' w'':World}
end
section
variable {lo g mb:Nat} {w w':World} {ps:List Pt} {vs:List (Int × Nat)} {u:Value}
end
end Go.Proofs.Ytmgephleogiaoaa
namespace Go.Proofs.Ytmgephleogiaoaa
open Go.RowKit Go.Maps
set_option linter.unusedVariables false
set_option linter.unusedSimpArgs false
def Pt.own (p:Pt) (b:Nat):Prop:=(Value.slice p.ja p.nd.args.length p.jc).ownBlock=some b
section
variable {lo g mb:Nat}
end
end Go.Proofs.Ytmgephleogiaoaa
namespace Go.Proofs.Ytmgephleogiaoaa
open Go.RowKit Go.Maps
set_option linter.unusedVariables false
set_option linter.unusedSimpArgs false
section
variable {lo g mb:Nat}
end
end Go.Proofs.Ytmgephleogiaoaa
namespace Go.Proofs.Ytmgephleogiaoaa
open Go.RowKit Go.Maps
set_option linter.unusedVariables false
set_option linter.unusedSimpArgs false
section
variable {lo g mb:Nat} {w wr w1 w2 w3:World} {t x:Tm} {a:Option Addr} {c j:Nat} {ps qs qs':List Pt} {vs:List (Int × Nat)} {va u u':Value}
end
end Go.Proofs.Ytmgephleogiaoaa
namespace Go.Proofs.Ytmgephleogiaoaa
open Go.RowKit Go.Maps
set_option linter.unusedVariables false
set_option linter.unusedSimpArgs false
section
variable {lo g mb:Nat}
end
end Go.Proofs.Ytmgephleogiaoaa

/-
  Joined texts (Tv18, Tv19, Tv20, Tv21, Tv22, Tv24). No condition.
-/
import Derived.Test.YtmgephleogiaoaaNMA
import Derived.Test.YtmgephleogiaoaaNMB
import Derived.Test.YtmgephleogiaoaaNMC
import Derived.Test.YtmgephleogiaoaaNMD
import Derived.Test.YtmgephleogiaoaaNME
import Derived.Test.YtmgephleogiaoaaNMG
import Derived.Test.YtmgephleogiaoaaNMI
import Derived.Test.YtmgephleogiaoaaNMH
import Derived.Maps.RangeWalk
import Derived.Test.YtmgephleogiaoaaNMF
import Derived.Test.YtmgephleogiaoaaNMK
namespace Go.Proofs.Ytmgephleogiaoaa
open Go.RowKit Go.Maps Go.Sort Go.Shelf
set_option linter.unusedVariables false
set_option linter.unusedSimpArgs false
instance:Inhabited BP:=⟨(0,default,none,0)⟩
end Go.Proofs.Ytmgephleogiaoaa
namespace Go.Proofs.Ytmgephleogiaoaa
open Go.RowKit Go.Maps
set_option linter.unusedVariables false
set_option linter.unusedSimpArgs false
section
variable {lo g mb gp cap:Nat} {ps:List Pt} {vs:List (Int × Nat)} {R rk:Nat→Nat} {D:Nat→T} {w wr W:World} {q q' q2:List Pt} {u:Value} {bs:List BP} {X:Nat→Prop}
end
end Go.Proofs.Ytmgephleogiaoaa
namespace Go.Proofs.Ytmgephleogiaoaa
open Go.RowKit Go.Maps
set_option linter.unusedVariables false
set_option linter.unusedSimpArgs false
section
variable {t u:Tm} {G1 G:List Nd} {V1 V:List (Int × Nat)} {A B:Nat} {D:Nat→T} {R:Nat→Nat}
end
def KT (lo:Nat) (w w':World):Prop:=Keep (fun k=>k < lo∨∃ cs,Blk w k 24 cs) w w'
section
variable {lo g mb gp cap:Nat} {w w' w'':World} {ps:List Pt} {vs:List (Int × Nat)} {v:Value}
end
end Go.Proofs.Ytmgephleogiaoaa
namespace Go.Proofs.Ytmgephleogiaoaa
open Go.RowKit Go.Maps
set_option linter.unusedVariables false
set_option linter.unusedSimpArgs false
section
variable {lo g mb:Nat} {W:World} {t u:Tm} {G1 G:List Nd} {V1 V:List (Int × Nat)} {A B:Nat} {D:Nat→T} {a b:Option Addr} {c d:Nat}
end
end Go.Proofs.Ytmgephleogiaoaa
namespace Go.Proofs.Ytmgephleogiaoaa
open Go.RowKit Go.Maps
set_option linter.unusedVariables false
set_option linter.unusedSimpArgs false
section
variable {w:World} {t u:Tm} {a b:Option Addr} {c d:Nat}
end
end Go.Proofs.Ytmgephleogiaoaa
namespace Go.Proofs.Ytmgephleogiaoaa
open Go.RowKit Go.Maps
set_option linter.unusedVariables false
set_option linter.unusedSimpArgs false
end Go.Proofs.Ytmgephleogiaoaa

/-
  Joined texts (Tv0, Tv1, Tv2, Tv3, Tv4). No condition.
-/
import Derived.Test.YtmgephleogiaoaaNMB
import Derived.Test.YtmgephleogiaoaaNME
import Derived.Deep.QuietTactic
import Derived.Deep.RegionHeld3
namespace Go.Proofs.Ytmgephleogiaoaa
open Go.RowKit Go.Maps
set_option linter.unusedVariables false
set_option linter.unusedSimpArgs false
structure Pt where
  nd:Nd
  ta:Option Addr
  tl:Nat
  tc:Nat
  ja:Option Addr
  jc:Nat
  same:Nat
  st:Int
  sz:Int
  dp:Int
instance:Inhabited Pt:=⟨⟨default,none,0,0,none,0,0,0,0,0⟩⟩
def Pt.cells (p:Pt):List Value:=[.int .i64 p.nd.k,.string (str p.nd.nm),.int .i64 p.nd.i,.slice p.ta p.tl p.tc,.slice p.ja p.nd.args.length p.jc,.int .i64 p.same,.int .i64 p.st,.int .i64 p.sz,.int .i64 p.dp]
section
variable {α:Type} {m:Nat} {f:α→List Value}
end
section
variable {lo g mb gp cap:Nat} {w w':World} {ps:List Pt} {vs:List (Int × Nat)} {i f:Nat} {p q:Pt} {v:Value}
end
end Go.Proofs.Ytmgephleogiaoaa
namespace Go.Proofs.Ytmgephleogiaoaa
open Go.RowKit Go.Maps
set_option linter.unusedVariables false
set_option linter.unusedSimpArgs false
section
variable {lo g mb gp cap:Nat} {w:World} {ps:List Pt} {vs:List (Int × Nat)} {R rk:Nat→Nat} {at_:Nat}
end
end Go.Proofs.Ytmgephleogiaoaa
namespace Go.Proofs.Ytmgephleogiaoaa
open Go.RowKit Go.Maps
set_option linter.unusedVariables false
set_option linter.unusedSimpArgs false
section
variable {lo g mb gp cap:Nat} {w:World} {ps:List Pt} {vs:List (Int × Nat)} {x y:Nat} {p q:Pt}
end
end Go.Proofs.Ytmgephleogiaoaa
namespace Go.Proofs.Ytmgephleogiaoaa
open Go.RowKit Go.Maps
set_option linter.unusedVariables false
set_option linter.unusedSimpArgs false
section
variable {lo g mb gp cap:Nat} {w wr:World} {ps qs:List Pt} {vs:List (Int × Nat)} {R rk:Nat→Nat} {u:Value} {todo:List (Nat × Nat)}
end
end Go.Proofs.Ytmgephleogiaoaa
namespace Go.Proofs.Ytmgephleogiaoaa
open Go.RowKit Go.Maps
set_option linter.unusedVariables false
set_option linter.unusedSimpArgs false
section
variable {lo g mb gp cap:Nat} {w:World} {ps:List Pt} {vs:List (Int × Nat)} {D:Nat→T} {a b:Nat}
end
end Go.Proofs.Ytmgephleogiaoaa

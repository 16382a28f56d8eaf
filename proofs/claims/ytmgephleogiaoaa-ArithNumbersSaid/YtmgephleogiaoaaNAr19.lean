/-
  The law ArithBalls, walked. No condition but where its terms lie.
-/
import Derived.Test.YtmgephleogiaoaaNAr16
namespace Go.Proofs.Ytmgephleogiaoaa
open Go.RowKit Go.Maps
set_option linter.unusedVariables false
set_option linter.unusedSimpArgs false
theorem right_is {W:World} {t:Tm} {a:Option Addr} {c:Nat} {z:Bool} (hT:TmAt W.heap.size W t a c) (h:t.right=z):Calls Try.prog 11 #[tv t a c] W fun e w'=>e=.returned (.bool z)∧Keep (fun g=>g < W.heap.size) W w':=by
  subst h;exact refRight_any hT
theorem ball_ok {t:Tm} (h:t.ok=true):(ballT t).ok=true:=by
  simp only [ballT,Tm.ok,okL,aNil]
  simp [h]
end Go.Proofs.Ytmgephleogiaoaa

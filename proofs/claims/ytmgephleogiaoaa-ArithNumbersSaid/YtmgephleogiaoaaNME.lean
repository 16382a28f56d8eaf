/-
  Joined texts (Tm24, Tm25, Tm26). No condition.
-/
import Derived.Test.YtmgephleogiaoaaNMD
import Derived.RangeFuncNested
import Derived.RangeFuncLeaves
import Derived.RangeFuncCalls
import Derived.OwnWalkIn
import Derived.TacticsInMore
import Derived.RegionIn
import Derived.LoopNIn
import Derived.LoopIn
import Derived.Shelf.Abstract
import Derived.Lib.Hide
namespace Go.Proofs.Ytmgephleogiaoaa
open Go.RowKit Go.Maps Go.Shelf
set_option linter.unusedVariables false
set_option linter.unusedSimpArgs false
attribute [local go_sem] Oper.semAt_some
def KpB (Bs:Nat) (a:Option Addr) (A B:World):Prop:=B.heap[Bs]? = A.heap[Bs]?∧∀ b off,a=some ⟨b,off,none⟩→B.heap[b]? = A.heap[b]?
abbrev Pl (len:Nat):={ j:Nat // j < len }
theorem down_step {len k:Nat} (hk:k + 1 ≤ len):((List.range len).drop k).reverse=((List.range len).drop (k + 1)).reverse ++ [k]:=by
  rw [List.drop_eq_getElem_cons (by simp;omega),List.reverse_cons];simp
end Go.Proofs.Ytmgephleogiaoaa
namespace Go.Proofs.Ytmgephleogiaoaa
open Go.RowKit Go.Maps Go.Shelf
set_option linter.unusedVariables false
set_option linter.unusedSimpArgs false
attribute [local go_sem] Oper.semAt_some
section
variable {B0 lo:Nat} {W W':World} {t:Tm} {a:Option Addr} {c:Nat}
end
section
variable {w:World} {ps:List TP} {t:Tm} {a b:Option Addr} {cap d:Nat}
end
end Go.Proofs.Ytmgephleogiaoaa
namespace Go.Proofs.Ytmgephleogiaoaa
open Go.RowKit Go.Maps
set_option linter.unusedVariables false
set_option linter.unusedSimpArgs false
theorem Fr.growR {B0 lo hi c:Nat} {Q Q':Nat→Prop} {w:World} {t:Tm} {a:Option Addr} (h:Fr B0 Q w lo hi t a c) {H:Nat} (hH:hi ≤ H):(∀ k,lo ≤ k→Q' k→Q k∨H ≤ k)→Fr B0 Q' w lo hi t a c:=by
  induction h with
  | old h hl=>intro _;exact .old h hl
  | node hk1 hw hn h8 hlb hub hq blk hcp hs ih =>
    intro hQ
    refine .node hk1 hw hn h8 hlb hub (fun h=>?_) blk hcp fun j p hj=>ih j p hj hQ
    rcases hQ _ hlb h with h | h
    · exact hq h
    · omega
section
variable {w:World} {t:Tm} {a:Option Addr} {c:Nat}
end
end Go.Proofs.Ytmgephleogiaoaa

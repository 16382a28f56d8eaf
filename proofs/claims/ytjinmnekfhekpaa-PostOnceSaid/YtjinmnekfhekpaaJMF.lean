/-
  Joined texts (Tm27, Tm28, Tm29, Tm30). No condition.
-/
import Derived.Test.YtjinmnekfhekpaaJME
namespace Go.Proofs.Ytjinmnekfhekpaa
open Go.RowKit Go.Maps
set_option linter.unusedVariables false
set_option linter.unusedSimpArgs false
end Go.Proofs.Ytjinmnekfhekpaa
namespace Go.Proofs.Ytjinmnekfhekpaa
open Go.RowKit Go.Maps Go.Shelf
set_option linter.unusedVariables false
set_option linter.unusedSimpArgs false
attribute [local go_sem] Oper.semAt_some
end Go.Proofs.Ytjinmnekfhekpaa
namespace Go.Proofs.Ytjinmnekfhekpaa
open Go.RowKit Go.Maps Go.Shelf
set_option linter.unusedVariables false
set_option linter.unusedSimpArgs false
attribute [local go_sem] Oper.semAt_some
abbrev BP:=Int × TP
def bdOf (bs:List BP):Int→Option TP:=fun x=>(bs.find? (fun q=>q.1 == x)).map (·.2)
def BSl (B0:Nat) (w:World) (a:Option Addr) (bs:List BP):Prop :=
  ∀ j q,bs[j]? = some q→(∃ b off,a=some ⟨b,off,none⟩∧b < B0∧w.cell? ⟨b,off + j * 5,none⟩=some (.int .i64 q.1)∧w.cell? ⟨b,off + j * 5 + 1,none⟩=some (.int .i64 q.2.1.k)∧w.cell? ⟨b,off + j * 5 + 2,none⟩=some (.string (str q.2.1.nm))∧w.cell? ⟨b,off + j * 5 + 3,none⟩=some (.int .i64 q.2.1.i)∧w.cell? ⟨b,off + j * 5 + 4,none⟩=some (.slice q.2.2.1 q.2.1.args.length q.2.2.2))∧(ik q.1).wf=true∧TmAt B0 w q.2.1 q.2.2.1 q.2.2.2
end Go.Proofs.Ytjinmnekfhekpaa
namespace Go.Proofs.Ytjinmnekfhekpaa
open Go.RowKit Go.Maps Go.Shelf
set_option linter.unusedVariables false
set_option linter.unusedSimpArgs false
attribute [local go_sem] Oper.semAt_some
theorem row_ints {w:World} {base:Nat} {u:Value} {xs:List Int} (h:w.ownsRow base 2 1 u xs.length (xs.map (Value.int .i64))):∃ a c,u=.slice a xs.length c∧∀ j,j < xs.length→∃ g,a=some ⟨g,0,none⟩∧g < w.heap.size∧w.cell? ⟨g,j,none⟩=some (.int .i64 (xs.getD j 0)):=by
  rcases h.2 with ⟨rfl,h0⟩ | ⟨g,cap,cur,rfl,_,hb,_⟩
  · exact ⟨none,0,by rw [h0],fun j hj=>by omega⟩
  · refine ⟨_,_,rfl,fun j hj=>⟨g,rfl,(show Blk w g 2 cur from hb).lt,?_⟩⟩
    rw [h.cellAt j (by omega)]
    simp [List.getD,hj]
section
variable {w:World} {bs:List BP} {t:Tm} {a b:Option Addr} {cap d:Nat}
end
end Go.Proofs.Ytjinmnekfhekpaa

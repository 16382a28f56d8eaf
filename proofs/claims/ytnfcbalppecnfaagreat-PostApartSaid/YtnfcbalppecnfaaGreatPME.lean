/-
  Joined texts (Tm24, Tm25, Tm26). No condition.
-/
import Derived.Test.YtnfcbalppecnfaaGreatPMD
import Derived.RangeFuncNested
import Derived.RangeFuncLeaves
import Derived.RangeFuncCalls
import Derived.OwnWalkIn
import Derived.TacticsInMore
import Derived.RegionIn
import Derived.LoopNIn
import Derived.LoopIn
import Derived.Shelf.Abstract
import Derived.Lib.Hide
namespace Go.Proofs.YtnfcbalppecnfaaGreat
open Go.RowKit Go.Maps Go.Shelf
set_option linter.unusedVariables false
set_option linter.unusedSimpArgs false
attribute [local go_sem] Oper.semAt_some
end Go.Proofs.YtnfcbalppecnfaaGreat
namespace Go.Proofs.YtnfcbalppecnfaaGreat
open Go.RowKit Go.Maps Go.Shelf
set_option linter.unusedVariables false
set_option linter.unusedSimpArgs false
attribute [local go_sem] Oper.semAt_some
def TmSl (B : Nat) (w : World) (a : Option Addr) (ps : List TP) : Prop :=
  ∀ j p, ps[j]? = some p → (∃ b off, a = some ⟨b, off, none⟩ ∧ b < B ∧ ∀ f v, p.cells[f]? = some v → w.cell? ⟨b, off + (j * 4 + f), none⟩ = some v) ∧ TmAt B w p.1 p.2.1 p.2.2
section
variable {B0 lo : Nat} {W W' : World} {t : Tm} {a : Option Addr} {c : Nat}
end
section
variable {w : World} {ps : List TP} {t : Tm} {a b : Option Addr} {cap d : Nat}
end
end Go.Proofs.YtnfcbalppecnfaaGreat
namespace Go.Proofs.YtnfcbalppecnfaaGreat
open Go.RowKit Go.Maps
set_option linter.unusedVariables false
set_option linter.unusedSimpArgs false
theorem news_at {w : World} {g : Nat} {ty : TypeId} {news : List Value} (hb : Blk w g ty news.toArray) : ∀ j u, news[j]? = some u → w.cell? ((⟨g, 0, none⟩ : Addr).add j) = some u := fun j u h => by
  have e : ((⟨g, 0, none⟩ : Addr).add j) = ⟨g, j, none⟩ := by simp [Addr.add]; omega
  rw [e, hb.cell, List.getElem?_toArray]; exact h
theorem Fr.growR {B0 lo hi c : Nat} {Q Q' : Nat → Prop} {w : World} {t : Tm} {a : Option Addr} (h : Fr B0 Q w lo hi t a c) {H : Nat} (hH : hi ≤ H) : (∀ k, lo ≤ k → Q' k → Q k ∨ H ≤ k) → Fr B0 Q' w lo hi t a c := by
  induction h with
  | old h hl => intro _; exact .old h hl
  | node hk1 hw hn h8 hlb hub hq blk hcp hs ih =>
    intro hQ
    refine .node hk1 hw hn h8 hlb hub (fun h => ?_) blk hcp fun j p hj => ih j p hj hQ
    rcases hQ _ hlb h with h | h
    · exact hq h
    · omega
section
variable {w : World} {t : Tm} {a : Option Addr} {c : Nat}
end
end Go.Proofs.YtnfcbalppecnfaaGreat

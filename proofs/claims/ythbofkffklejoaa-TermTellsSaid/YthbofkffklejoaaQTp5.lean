/-
  What a solution's bindings do to the terms; the other way round it is the same. No condition.
-/
import Derived.Test.YthbofkffklejoaaQTp3
namespace Go.Proofs.Ythbofkffklejoaa
set_option linter.unusedVariables false
structure Sols (t u : Tm) (bs : List BP) (f : Int → T) : Prop where
  rt : t.Right
  ru : u.Right
  sol : IsSol t.tree u.tree f
  right : ∀ x, f x = .v x ∨ (f x).Right
  rise : (bs.map (·.1)).Pairwise (· < ·)
  are : ∀ p ∈ bs, p.2.1 = (f p.1).tm ∧ f p.1 ≠ .v p.1
  all : ∀ x, f x ≠ .v x → ∃ p ∈ bs, p.1 = x
end Go.Proofs.Ythbofkffklejoaa

/-
  Arguments that are slices of terms, or of bindings, out of their readings. No condition.
-/
import Derived.Test.YtnfcbalppecnfaaGreatPSx2
import Derived.WideShapes
import Derived.SizedLaws
namespace Go.Proofs.YtnfcbalppecnfaaGreat
open Go.RowKit Go.Deep Go.ChangeShapes Go.WideShapes
set_option linter.unusedVariables false
theorem okWide_sliceH {P : Program} {w : World} {r : Go.Reach} {base : Nat} {t e : TypeId} {v : Value} (ht : P.underlying t = some (.slice e)) (h : Value.okWide P w r base t v) : ∃ a len cap, v = .slice a len cap ∧ ∀ g off, a = some ⟨g, off, none⟩ → g < w.heap.size := by
  obtain ⟨a, len, cap, rfl⟩ := okWide_slice ht h
  refine ⟨a, len, cap, rfl, fun g off ha => ?_⟩
  subst ha
  simp only [Value.okWide, ht, Cell.okWide, Cell.ok, World.has] at h
  obtain ⟨_, _, _, _, row, cells, hs, _⟩ := h
  rcases Nat.lt_or_ge g w.heap.size with h1 | h1
  · exact h1
  · unfold World.shape? at hs
    simp [Array.getElem?_eq_none h1] at hs
section
variable {H : Type} {enc : TypeId × Value → H} {w : World} {base : Nat} {spare : Nat → Bool} {held : Bool}
end
end Go.Proofs.YtnfcbalppecnfaaGreat

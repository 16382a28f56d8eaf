/-
  Rows of numbers that grow; a term made out of a slice of terms; one binding as a slice. No condition.
-/
import Derived.Test.YtnfcbalppecnfaaGreatPSx2
import Derived.Test.YtnfcbalppecnfaaGreatPTp1
namespace Go.Proofs.YtnfcbalppecnfaaGreat
open Go.RowKit Go.Maps
set_option linter.unusedVariables false
set_option linter.unusedSimpArgs false
section
variable {w : World} {t u x : Tm} {a b : Option Addr} {c d : Nat}
theorem tm_row {B : Nat} {ps : List TP} {nm : List UInt8} {cap : Nat} (h : TmSl B w a ps) (hn : nm.length ≤ maxLen) (hl : ps.length ≤ maxLen) : TmAt B w (.node 4 nm 0 (ps.map (·.1))) a cap := by
  have hat : ∀ (j : Nat) (x : Tm), (Tm.node 4 nm 0 (ps.map (·.1))).args[j]? = some x → ∃ p, ps[j]? = some p ∧ p.1 = x := fun j x hj => by
    have hj' : (ps.map (·.1))[j]? = some x := hj
    rw [List.getElem?_map] at hj'
    obtain ⟨p, hp, he⟩ := Option.map_eq_some_iff.1 hj'
    exact ⟨p, hp, he⟩
  refine .mk _ _ _ (fun j => (ps[j]?.getD default).2.1) (fun j => (ps[j]?.getD default).2.2) (show (ik 4).wf = true from by decide) (show (ik 0).wf = true from by decide) hn (by show (ps.map (·.1)).length ≤ maxLen; rw [List.length_map]; exact hl) (fun j x hj => ?_) (fun j x hj => ?_)
  · obtain ⟨p, hp, rfl⟩ := hat j x hj
    obtain ⟨⟨b, off, ha, hb, hc⟩, _⟩ := h j p hp
    refine ⟨b, off, ha, hb, fun f v hv => hc f v ?_⟩
    simp only [hp, Option.getD_some] at hv
    exact hv
  · obtain ⟨p, hp, rfl⟩ := hat j x hj
    obtain ⟨_, ht⟩ := h j p hp
    simp only [hp, Option.getD_some]
    exact ht
end
end Go.Proofs.YtnfcbalppecnfaaGreat

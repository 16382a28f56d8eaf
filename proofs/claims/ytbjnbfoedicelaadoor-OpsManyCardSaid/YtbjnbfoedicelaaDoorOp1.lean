/-
  Operators in memory: a name and a sort as a map's key. No condition.
-/
import Derived.Test.YtbjnbfoedicelaaDoorOp0
import Derived.Test.YtbjnbfoedicelaaDoorStr
import Derived.Test.YtbjnbfoedicelaaDoorMem
import Derived.Maps.OwnSet
import Derived.Maps.Range
import Derived.DeepKeys4
namespace Go.Proofs.YtbjnbfoedicelaaDoor
open Go.RowKit Go.Maps
set_option linter.unusedVariables false
set_option linter.unusedSimpArgs false

theorem laidOut : laidOutB Tryd.prog = true := by kernel_rfl
theorem typesSize : Tryd.prog.types.size = 133 := by kernel_rfl
theorem keyRow : 56 < Tryd.prog.types.size := by rw [typesSize]; decide
theorem keyAt : Tryd.prog.keyTypeAt 2 56 = true := by kernel_rfl
set_option maxRecDepth 100000 in
theorem keyWide : (match Tryd.prog.underlying 56 with | some (.array _ _) | some (.struct _) => true | _ => false) = true := by kernel_rfl
set_option maxRecDepth 100000 in
theorem keyLaw : Keyed Tryd.prog 56 := Keyed.of_law (deep_law_laid laidOut (m := 2) (by omega) keyRow keyAt keyWide)
def kvl (nm : List UInt8) (p : Bool) : Value := .agg #[.string (str nm), .bool p]
noncomputable def kl (nm : List UInt8) (p : Bool) : Lit := (keyOf Tryd.prog 56 (kvl nm p)).getD (.bool false)
theorem keyIs : Tryd.prog.keyType 56 = true := by kernel_rfl
theorem keyCells : Tryd.prog.cellsOf 56 = 2 := by kernel_rfl
theorem strCells : Tryd.prog.cellsOf 9 = 1 := by kernel_rfl
theorem boolCells : Tryd.prog.cellsOf 4 = 1 := by kernel_rfl
theorem keyOf_kvl {nm : List UInt8} (h : nm.length ≤ maxLen) (p : Bool) : keyOf Tryd.prog 56 (kvl nm p) = some (kl nm p) := by
  have : ∃ l, keyOf Tryd.prog 56 (kvl nm p) = some l := by
    unfold keyOf
    rw [Tryd.underlying56]
    simp only [keyIs, Bool.true_and]
    have hf : (kvl nm p).formed Tryd.prog 56 = true := by
      simp [kvl, Value.formed, Tryd.underlying56, keyCells]
    obtain ⟨m, hm⟩ : ∃ m, Tryd.prog.types.size = m + 1 := ⟨132, typesSize⟩
    rw [if_pos hf, hm]
    have hz : (str nm).size ≤ maxLen := by rw [str_size]; exact h
    refine Option.isSome_iff_exists.1 ?_
    simp [Program.keyLits, Tryd.underlying56, Tryd.underlying9, Tryd.underlying4, keyCells, strCells, boolCells, kvl, Value.cells, hz]
  obtain ⟨l, hl⟩ := this
  unfold kl; rw [hl]; rfl
attribute [irreducible] kl
set_option maxRecDepth 100000 in
theorem kl_inj {nm mn : List UInt8} {p q : Bool} (h : nm.length ≤ maxLen) (h' : mn.length ≤ maxLen) (he : kl nm p = kl mn q) : nm = mn ∧ p = q := by
  have h2 := keyOf_kvl h' q
  rw [← he] at h2
  have := keyLaw.inj (keyOf_kvl h p) h2
  unfold kvl at this
  simp only [Value.agg.injEq, Array.mk.injEq, List.cons.injEq, Value.string.injEq, Value.bool.injEq, and_true] at this
  exact ⟨str_inj this.1, this.2⟩
end Go.Proofs.YtbjnbfoedicelaaDoor

/-
  Joined texts (Sx1). No condition.
-/
import Derived.Test.YtnfcbalppecnfaaGreatPMG
import Derived.Test.YtnfcbalppecnfaaGreatPML
import Derived.Test.YtnfcbalppecnfaaGreatPMP
namespace Go.Proofs.YtnfcbalppecnfaaGreat
open Go.RowKit Go.Maps
set_option linter.unusedVariables false
set_option linter.unusedSimpArgs false
theorem enter_sx {P : Program} {f : FuncId} {fn : Func} {c : Code} {args : Array Value} {w : World} {R : Ending → World → Prop} {n : Nat} (hf : P.funcs[f]? = some fn) (hb : fn.body = some c) (hn : fn.ntmps = n) (hs : args.size ≤ n)
    (h : ∀ a : Act, FrS n a → (∀ (k : Nat) (v : Value), args[k]? = some v → a.tmps[k]? = some v) → c.wp P (bodyPost P fn R) a w) : Calls P f args w R := by
  refine calls_of_wp hf hb (h _ ⟨?_, rfl⟩ fun k v hk => ?_)
  · show (args ++ Array.replicate (fn.ntmps - args.size) undef).size = n
    rw [Array.size_append, Array.size_replicate, hn]; omega
  · show (args ++ Array.replicate (fn.ntmps - args.size) undef)[k]? = some v
    have hlt : k < args.size := by
      rcases Nat.lt_or_ge k args.size with h | h
      · exact h
      · rw [Array.getElem?_eq_none h] at hk; cases hk
    rw [Array.getElem?_append_left hlt]; exact hk
theorem cell_on {w w' : World} {b k : Nat} {v : Value} (h : w.cell? ⟨b, k, none⟩ = some v) (hk : Keep (fun g => g < w.heap.size) w w') : w'.cell? ⟨b, k, none⟩ = some v := by
  have hb : b < w.heap.size := World.block_lt_of_cell? w ⟨b, k, none⟩ h
  have := hk.block b hb hb
  unfold World.cell? at h ⊢
  simp only at h ⊢
  rw [this]; exact h
end Go.Proofs.YtnfcbalppecnfaaGreat

/-
  Arguments that are slices of numbers, out of their readings. No condition.
-/
import Derived.Test.YtjinmnekfhekpaaKTr1
import Derived.Test.YtjinmnekfhekpaaKMG
namespace Go.Proofs.Ytjinmnekfhekpaa
open Go.RowKit Go.Deep Go.ChangeShapes Go.WideShapes
set_option linter.unusedVariables false
section
variable {H : Type} {enc : TypeId × Value → H} {w : World} {base : Nat} {spare : Nat → Bool} {held : Bool}
set_option maxRecDepth 100000 in
theorem longs_of {n len cap : Nat} {a : Option Addr} {x : DataW H × List MemPlace} (h : DataW.trod enc Try.prog w base spare held n 56 [.slice a len cap] = some x) :
    ∃ ns : List Int, ns.length = len ∧ LongsAt w a ns ∧ len ≤ cap ∧ ∀ z ∈ ns, (ik z).wf = true := by
  rcases open_ints Try.underlying56 Try.underlying2 (by kernel_rfl) h with ⟨hcs, _⟩ | ⟨ad, len, cap, zs, hcs, _, hl, hm, hz, _, hcell, hwz⟩
  · simp at hcs
    obtain ⟨rfl, rfl, rfl⟩ := hcs
    exact ⟨[], rfl, fun j hj => by simp at hj, Nat.le_refl _, fun z hz => by simp at hz⟩
  · simp at hcs
    obtain ⟨rfl, rfl, rfl⟩ := hcs
    have hzl : len ≤ zs.length := by rw [hz]; split <;> omega
    refine ⟨zs.take len, by rw [List.length_take]; omega, fun j hj => ?_, hl, fun z hz => hwz z (List.mem_of_mem_take hz)⟩
    rw [List.length_take] at hj
    have h0 := hcell j (by omega)
    obtain ⟨b, off, spot⟩ := ad
    have hspot : spot = none := by
      have h1 := World.cell?_spot (hcell 0 (by omega))
      simpa [Addr.add] using h1
    subst hspot
    have hadd : (⟨b, off, none⟩ : Addr).add j = ⟨b, off + j, none⟩ := by
      unfold Addr.add
      by_cases hj0 : j = 0
      · subst hj0; simp
      · rw [if_neg hj0]
    rw [hadd] at h0
    refine ⟨b, off, rfl, cell_blk h0, ?_⟩
    rw [h0, List.getD_eq_getElem?_getD, List.getD_eq_getElem?_getD, List.getElem?_take_of_lt (by omega)]
end
end Go.Proofs.Ytjinmnekfhekpaa

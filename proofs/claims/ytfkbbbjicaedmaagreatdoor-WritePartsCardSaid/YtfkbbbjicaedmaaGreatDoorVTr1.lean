/-
  Arguments that are slices of terms, or of bindings, out of their readings. No condition.
-/
import Derived.WideShapes
import Derived.SizedLaws
import Derived.Test.YtfkbbbjicaedmaaGreatDoorVWrW
namespace Go.Proofs.YtfkbbbjicaedmaaGreatDoor
open Go.RowKit Go.Deep Go.ChangeShapes Go.WideShapes
set_option linter.unusedVariables false
theorem okWide_sliceH {P : Program} {w : World} {r : Go.Reach} {base : Nat} {t e : TypeId} {v : Value} (ht : P.underlying t = some (.slice e)) (h : Value.okWide P w r base t v) : ∃ a len cap, v = .slice a len cap ∧ ∀ g off, a = some ⟨g, off, none⟩ → g < w.heap.size := by
  obtain ⟨a, len, cap, rfl⟩ := okWide_slice ht h
  refine ⟨a, len, cap, rfl, fun g off ha => ?_⟩
  subst ha
  simp only [Value.okWide, ht, Cell.okWide, Cell.ok, World.has] at h
  obtain ⟨_, _, _, _, row, cells, hs, _⟩ := h
  rcases Nat.lt_or_ge g w.heap.size with h1 | h1
  · exact h1
  · unfold World.shape? at hs
    simp [Array.getElem?_eq_none h1] at hs
section
variable {H : Type} {enc : TypeId × Value → H} {w : World} {base : Nat} {spare : Nat → Bool} {held : Bool}
set_option maxRecDepth 100000 in
theorem tmsl_of {n len cap : Nat} {a : Option Addr} {x : DataW H × List MemPlace} (h : DataW.trod enc Tryz.prog w base spare held n 22 [.slice a len cap] = some x) :
    ∃ ps : List TP, ps.length = len ∧ TmSl w.heap.size w a ps ∧ ((x.1 = .nil ∧ len = 0) ∨ ∃ es sp, x.1 = .slice es sp ∧ es.length = len) := by
  rcases DataW.trod_slice Tryz.underlying22 h with ⟨hcs, hx⟩ | ⟨ad, len, cap, elems, rest, m2, rfl, hcs, hx, _, hl, hm, hel, hall, _⟩
  · simp at hcs
    obtain ⟨rfl, rfl, rfl⟩ := hcs
    exact ⟨[], rfl, fun j p hj => by simp at hj, .inl ⟨by rw [hx], rfl⟩⟩
  · simp at hcs
    obtain ⟨rfl, rfl, rfl⟩ := hcs
    have each : ∀ j, j < len → ∃ p : Tm × Option Addr × Nat, w.cells? base (ad.add (j * 4)) 4 = some (Tm.cells p.1 p.2.1 p.2.2) ∧ TmAt w.heap.size w p.1 p.2.1 p.2.2 := fun j hj => by
      have hj2 := hall j hj
      rw [cellsT, List.getElem?_eq_getElem (by rw [hel]; exact hj)] at hj2
      obtain ⟨cs', hc', ht'⟩ := Option.bind_eq_some_iff.1 hj2
      obtain ⟨t', a', c', rfl, hat⟩ := tm_of _ ht'
      exact ⟨(t', a', c'), hc', hat⟩
    obtain ⟨F, hF⟩ := choose_lt each
    refine ⟨(List.range len).map F, by simp, fun j p hj => ?_, .inr ⟨_, _, by rw [hx], by simpa using hel⟩⟩
    have hj2 : j < len := by
      rcases Nat.lt_or_ge j len with h1 | h1
      · exact h1
      · rw [List.getElem?_eq_none (by simpa using h1)] at hj; cases hj
    simp [hj2] at hj
    subst hj
    obtain ⟨hb, hlen', hcell⟩ := World.cells?_some (hF j hj2).1
    obtain ⟨b, off, spot⟩ := ad
    have hspot : spot = none := by
      obtain ⟨_, _, hc0⟩ := World.cells?_some (hF 0 (by omega)).1
      have h0 := World.cell?_spot ((hc0 0 (by omega)).trans rfl)
      simpa [Addr.add] using h0
    subst hspot
    have hadd : ∀ f : Nat, ((⟨b, off, none⟩ : Addr).add (j * 4)).add f = ⟨b, off + (j * 4 + f), none⟩ := fun f => by
      by_cases hj0 : j = 0
      · subst hj0
        by_cases hf0 : f = 0
        · subst hf0; simp [Addr.add]
        · simp [Addr.add, hf0]
      · have h4 : ¬ j * 4 = 0 := by omega
        unfold Addr.add
        rw [if_neg h4]
        by_cases hf0 : f = 0
        · subst hf0; simp
        · rw [if_neg hf0]
          simp [Nat.add_assoc]
    have hlt4 : ∀ (f : Nat) (v : Value), (Tm.cells (F j).1 (F j).2.1 (F j).2.2)[f]? = some v → f < 4 := fun f v hv => by
      rcases Nat.lt_or_ge f 4 with h1 | h1
      · exact h1
      · rw [List.getElem?_eq_none (by simpa [Tm.cells] using h1)] at hv; cases hv
    have h0 := hcell 0 (by omega)
    rw [hadd 0] at h0
    refine ⟨⟨b, off, rfl, cell_blk (h0.trans rfl), fun f v hv => ?_⟩, (hF j hj2).2⟩
    have := hcell f (hlt4 f v hv)
    rw [hadd f] at this
    exact this.trans hv
theorem bytesTm : Tryz.prog.bytesOf 24 = 56 := by kernel_rfl
end
end Go.Proofs.YtfkbbbjicaedmaaGreatDoor

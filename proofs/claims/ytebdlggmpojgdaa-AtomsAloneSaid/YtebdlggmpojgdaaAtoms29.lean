/-
  What a walk is told of a slice of strings that came in; '&' with a number of bits that are all one. No condition.
-/
import Derived.Test.YtebdlggmpojgdaaArgs
import Derived.Deep.Strs
import Derived.OpenShut
namespace Go.Proofs.Ytebdlggmpojgdaa
open Go.RowKit Go.Maps Go.Deep
set_option linter.unusedVariables false

/-- Its elements are strings. -/
def IsStrs (w : World) (a : Option Addr) (len : Nat) : Prop :=
  ∀ k, k < len → ∃ b off s, a = some ⟨b, off, none⟩ ∧ b < w.heap.size ∧ w.cell? ⟨b, off + k, none⟩ = some (.string s) ∧ s.size ≤ maxLen
theorem IsStrs.below {w w' : World} {a : Option Addr} {len : Nat} (h : IsStrs w a len) (hb : Below w.heap.size w w') : IsStrs w' a len := fun k hk => by
  obtain ⟨b, off, s, rfl, hlt, hc, hs⟩ := h k hk
  exact ⟨b, off, s, rfl, Nat.lt_of_lt_of_le hlt hb.size, (hb.cell (p := ⟨b, off + k, none⟩) hlt).trans hc, hs⟩
theorem IsStrs.keep {X : Nat → Prop} {B : Nat} {w0 w w' : World} {a : Option Addr} {len : Nat} (h : IsStrs w0 a len) (hk : Keep X w w') (hX : ∀ k, k < w0.heap.size → X k) (h0 : Below w0.heap.size w0 w) : IsStrs w' a len := by
  have := h0.size
  exact h.below ⟨hk.os.trans h0.os, hk.tape.trans h0.tape, hk.output.trans h0.output, Nat.le_trans h0.size hk.size, fun k hk' => (hk.block k (Nat.lt_of_lt_of_le hk' h0.size) (hX k hk')).trans (h0.block k hk')⟩
section
variable {H : Type} {enc : TypeId × Value → H} {w : World} {base : Nat} {spare : Nat → Bool} {held : Bool}
theorem strs_of {n len cap : Nat} {a : Option Addr} {x : DataW H × List MemPlace} (h : DataW.trod enc Try.prog w base spare held n 22 [.slice a len cap] = some x) :
    IsStrs w a len ∧ ∃ es sp, (x.1 = .nil ∧ len = 0) ∨ (x.1 = .slice es sp ∧ es.length = len) := by
  rcases open_strs Try.underlying22 Try.underlying9 (by kernel_rfl) h with ⟨hcs, hx⟩ | ⟨a', len', cap', m, Sx, hcs, _, hl, hm, hmm, hx, hi⟩
  · simp at hcs
    obtain ⟨_, rfl, _⟩ := hcs
    exact ⟨fun k hk => by omega, [], [], .inl ⟨by rw [hx], rfl⟩⟩
  · simp at hcs
    obtain ⟨rfl, rfl, rfl⟩ := hcs
    refine ⟨fun k hk => ?_, _, _, .inr ⟨by rw [hx], by simp⟩⟩
    have hkm : ∀ j, j < len → j < m := fun j hj => by rw [hmm]; split <;> omega
    obtain ⟨hc, hs⟩ := hi k (hkm k hk)
    obtain ⟨b, off, spot⟩ := a'
    have hspot : spot = none := by
      have h0 := World.cell?_spot (hi 0 (hkm 0 (by omega))).1
      simpa [Addr.add] using h0
    subst hspot
    have hc' : w.cell? ⟨b, off + k, none⟩ = some (.string (Sx k)) := by
      by_cases hk0 : k = 0
      · subst hk0; simpa [Addr.add] using hc
      · simpa [Addr.add, hk0] using hc
    exact ⟨b, off, Sx k, rfl, cell_block hc', hc', hs⟩
end
/-- '&' with 1023. -/
theorem and_1023 (x : Int) : ∃ p : Nat, bits .and .i64 x 1023 = (p : Int) ∧ p ≤ 1023 := by
  refine ⟨(BitVec.ofInt 64 x &&& BitVec.ofInt 64 1023).toNat, ?_, ?_⟩
  · have h1 : (BitVec.ofInt 64 x &&& BitVec.ofInt 64 1023).toNat ≤ 1023 := by
      rw [BitVec.toNat_and]
      exact Nat.le_trans Nat.and_le_right (by decide)
    show IntKind.i64.wrap ((BitVec.ofInt 64 x &&& BitVec.ofInt 64 1023).toNat : Int) = _
    rw [IntKind.wrap_i64]
    omega
  · rw [BitVec.toNat_and]
    exact Nat.le_trans Nat.and_le_right (by decide)
end Go.Proofs.Ytebdlggmpojgdaa

/-
  What a walk is told of a script (a slice of calls) that came in, and how a call of it is read in a round. No condition.
-/
import Derived.Test.YtbgbknbfleiakaaAsk2
import Derived.ProofKit
import Derived.OpenShut
import Derived.Deep.Slices
import Derived.Deep.Fields
import Derived.SizedLaws
namespace Go.Proofs.Ytbgbknbfleiakaa
open Go.RowKit Go.Maps Go.Deep Go.ChangeShapes Go.WideShapes

/-- Call k of the script lies at its place, five numbers. -/
def IsOps (w : World) (a : Option Addr) (len : Nat) : Prop :=
  ∀ k, k < len → ∃ b off kd bb i v x, a = some ⟨b, off, none⟩ ∧ b < w.heap.size ∧ (w.cell? ⟨b, off + k * 5, none⟩ = some (.int .i64 kd) ∧ w.cell? ⟨b, off + k * 5 + 1, none⟩ = some (.int .i64 bb) ∧
    w.cell? ⟨b, off + k * 5 + 2, none⟩ = some (.int .i64 i) ∧ w.cell? ⟨b, off + k * 5 + 3, none⟩ = some (.int .i64 v) ∧ w.cell? ⟨b, off + k * 5 + 4, none⟩ = some (.int .i64 x)) ∧ (ik bb).wf = true ∧ (ik i).wf = true

theorem IsOps.keep {w w' : World} {a : Option Addr} {len : Nat} (h : IsOps w a len) (hb : Below w.heap.size w w') : IsOps w' a len := by
  intro k hk
  obtain ⟨b, off, kd, bb, i, v, x, ha, hlt, ⟨c0, c1, c2, c3, c4⟩, hw⟩ := h k hk
  have e : ∀ o, w'.cell? ⟨b, o, none⟩ = w.cell? ⟨b, o, none⟩ := fun o => hb.cell (p := ⟨b, o, none⟩) hlt
  exact ⟨b, off, kd, bb, i, v, x, ha, Nat.lt_of_lt_of_le hlt hb.size, ⟨by rw [e]; exact c0, by rw [e]; exact c1, by rw [e]; exact c2, by rw [e]; exact c3, by rw [e]; exact c4⟩, hw⟩

theorem cells31 : Try.prog.cellsOf 31 = 5 := by kernel_rfl
theorem cells3 : Try.prog.cellsOf 3 = 1 := by kernel_rfl
theorem cells2 : Try.prog.cellsOf 2 = 1 := by kernel_rfl
theorem bytes31 : Try.prog.bytesOf 31 = 40 := by kernel_rfl

section
variable {H : Type} {enc : TypeId × Value → H} {w : World} {base : Nat} {spare : Nat → Bool} {held : Bool}
/-- A call's five numbers out of its reading. -/
theorem five_of {n : Nat} {cs : List Value} {x : DataW H × List MemPlace} (h : DataW.trod enc Try.prog w base spare held n 31 cs = some x) :
    ∃ kd bb i v u : Int, cs = [.int .i64 kd, .int .i64 bb, .int .i64 i, .int .i64 v, .int .i64 u] ∧ (ik bb).wf = true ∧ (ik i).wf = true := by
  obtain ⟨xs, m, _, _, hlen, hxs, hf⟩ := DataW.trod_struct Try.underlying31 h
  rw [cells31] at hlen
  match cs, hlen with
  | [v0, v1, v2, v3, v4], _ =>
    match xs, hxs with
    | [y0, y1, y2, y3, y4], _ =>
      have g0 := hf 0 _ rfl
      have g1 := hf 1 _ rfl
      have g2 := hf 2 _ rfl
      have g3 := hf 3 _ rfl
      have g4 := hf 4 _ rfl
      simp [cells3, cells2] at g0 g1 g2 g3 g4
      obtain ⟨n0, e0, _, w0⟩ := DataW.trod_int Try.underlying3 g0
      obtain ⟨n1, e1, _, w1⟩ := DataW.trod_int Try.underlying3 g1
      obtain ⟨n2, e2, _, w2⟩ := DataW.trod_int Try.underlying3 g2
      obtain ⟨n3, e3, _, w3⟩ := DataW.trod_int Try.underlying2 g3
      obtain ⟨n4, e4, _, w4⟩ := DataW.trod_int Try.underlying2 g4
      simp at e0 e1 e2 e3 e4
      subst e0 e1 e2 e3 e4
      exact ⟨n0, n1, n2, n3, n4, rfl, w1, w2⟩

/-- A script out of its reading, and how long it may be. -/
theorem ops_of {n len cap : Nat} {a : Option Addr} {x : DataW H × List MemPlace} (h : DataW.trod enc Try.prog w base spare held n 22 [.slice a len cap] = some x) :
    IsOps w a len ∧ ∃ es sp, (x.1 = .nil ∧ len = 0) ∨ (x.1 = .slice es sp ∧ es.length = len) := by
  rcases open_slice Try.underlying22 h with ⟨hcs, hx⟩ | ⟨a', len', cap', m, n', D, Pl, hcs, _, hl, _, hm, hx, hi⟩
  · simp at hcs
    obtain ⟨_, rfl, _⟩ := hcs
    exact ⟨fun k hk => by omega, [], [], .inl ⟨by rw [hx], rfl⟩⟩
  · simp at hcs
    obtain ⟨rfl, rfl, rfl⟩ := hcs
    refine ⟨fun k hk => ?_, (List.range len).map D, _, .inr ⟨by rw [hx], by simp⟩⟩
    have hkm : k < m := by rw [hm]; split <;> omega
    obtain ⟨cs', hc, ht⟩ := hi k hkm
    rw [cells31] at hc
    obtain ⟨_, hlen, hcell⟩ := World.cells?_some hc
    obtain ⟨kd, bb, i, v, u, rfl, wb, wi⟩ := five_of ht
    have q0 := hcell 0 (by omega)
    have q1 := hcell 1 (by omega)
    have q2 := hcell 2 (by omega)
    have q3 := hcell 3 (by omega)
    have q4 := hcell 4 (by omega)
    obtain ⟨b, off, spot⟩ := a'
    have hspot : spot = none := by
      obtain ⟨cs0, hc0, ht0⟩ := hi 0 (by omega)
      rw [cells31] at hc0
      obtain ⟨_, _, hcell0⟩ := World.cells?_some hc0
      obtain ⟨_, _, _, _, _, rfl, _, _⟩ := five_of ht0
      have h0 := World.cell?_spot (hcell0 0 (by omega))
      simpa [Addr.add] using h0
    subst hspot
    simp only [Go.WideShapes.add_plain] at q0 q1 q2 q3 q4
    exact ⟨b, off, kd, bb, i, v, u, rfl, cell_block q0, ⟨by simpa using q0, by simpa using q1, by simpa using q2, by simpa using q3, by simpa using q4⟩, wb, wi⟩
end

/-! ### plain facts on a step -/
theorem AS.step_made (S : AS) (kd b i v x : Int) : S.made ≤ (S.step kd b i v x).made ∧ (S.step kd b i v x).made ≤ S.made + 1 := by
  unfold AS.step
  repeat' split
  all_goals first
    | (unfold AS.allocAt; split <;> simp [AS.alloc] <;> omega)
    | (unfold AS.freeAt; split <;> simp [AS.fault, AS.free] <;> omega)
    | (unfold AS.touch; split <;> simp [AS.fault] <;> omega)
    | (unfold AS.storeAt; repeat' split) <;> simp [AS.fault, AS.set] <;> omega
    | (unfold AS.swapAt; repeat' split) <;> simp [AS.fault, AS.set] <;> omega
    | (unfold AS.addAt; repeat' split) <;> simp [AS.fault, AS.set] <;> omega
    | omega

end Go.Proofs.Ytbgbknbfleiakaa

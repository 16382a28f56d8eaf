/-
  What a walk is told of a script (a slice of calls on a yard) that came in, and how a call of it is read in a round. No condition.
-/
import Derived.Test.YtiiaajdkkofbjaaRight
import Derived.ProofKit
import Derived.OpenShut
import Derived.Deep.Slices
import Derived.Deep.Fields
import Derived.SizedLaws
namespace Go.Proofs.Ytiiaajdkkofbjaa
open Go.RowKit Go.Maps Go.Deep Go.ChangeShapes Go.WideShapes

/-- Call k of the script lies at its place, three numbers. -/
def IsOps (w : World) (a : Option Addr) (len : Nat) : Prop :=
  ∀ k, k < len → ∃ b off kd t bb, a = some ⟨b, off, none⟩ ∧ b < w.heap.size ∧ (w.cell? ⟨b, off + k * 3, none⟩ = some (.int .i64 kd) ∧ w.cell? ⟨b, off + k * 3 + 1, none⟩ = some (.int .i64 t) ∧
    w.cell? ⟨b, off + k * 3 + 2, none⟩ = some (.int .i64 bb)) ∧ (ik bb).wf = true

theorem IsOps.keep {w w' : World} {a : Option Addr} {len : Nat} (h : IsOps w a len) (hb : Below w.heap.size w w') : IsOps w' a len := by
  intro k hk
  obtain ⟨b, off, kd, t, bb, ha, hlt, ⟨c0, c1, c2⟩, hw⟩ := h k hk
  have e : ∀ o, w'.cell? ⟨b, o, none⟩ = w.cell? ⟨b, o, none⟩ := fun o => hb.cell (p := ⟨b, o, none⟩) hlt
  exact ⟨b, off, kd, t, bb, ha, Nat.lt_of_lt_of_le hlt hb.size, ⟨by rw [e]; exact c0, by rw [e]; exact c1, by rw [e]; exact c2⟩, hw⟩

theorem cellsOp : Try.prog.cellsOf 49 = 3 := by kernel_rfl
theorem cells3 : Try.prog.cellsOf 3 = 1 := by kernel_rfl
theorem bytesOp : Try.prog.bytesOf 49 = 24 := by kernel_rfl

section
variable {H : Type} {enc : TypeId × Value → H} {w : World} {base : Nat} {spare : Nat → Bool} {held : Bool}
set_option maxRecDepth 100000 in
/-- A call's three numbers out of its reading. -/
theorem three_of {n : Nat} {cs : List Value} {x : DataW H × List MemPlace} (h : DataW.trod enc Try.prog w base spare held n 49 cs = some x) :
    ∃ kd t bb : Int, cs = [.int .i64 kd, .int .i64 t, .int .i64 bb] ∧ (ik bb).wf = true := by
  obtain ⟨xs, m, _, _, hlen, hxs, hf⟩ := DataW.trod_struct Try.underlying49 h
  rw [cellsOp] at hlen
  match cs, hlen with
  | [v0, v1, v2], _ =>
    match xs, hxs with
    | [y0, y1, y2], _ =>
      have g0 := hf 0 _ rfl
      have g1 := hf 1 _ rfl
      have g2 := hf 2 _ rfl
      simp [cells3] at g0 g1 g2
      obtain ⟨n0, e0, _, w0⟩ := DataW.trod_int Try.underlying3 g0
      obtain ⟨n1, e1, _, w1⟩ := DataW.trod_int Try.underlying3 g1
      obtain ⟨n2, e2, _, w2⟩ := DataW.trod_int Try.underlying3 g2
      simp at e0 e1 e2
      subst e0 e1 e2
      exact ⟨n0, n1, n2, rfl, w2⟩

set_option maxRecDepth 100000 in
/-- A script out of its reading, and how long it may be. -/
theorem ops_of {n len cap : Nat} {a : Option Addr} {x : DataW H × List MemPlace} (h : DataW.trod enc Try.prog w base spare held n 44 [.slice a len cap] = some x) :
    IsOps w a len ∧ ∃ es sp, (x.1 = .nil ∧ len = 0) ∨ (x.1 = .slice es sp ∧ es.length = len) := by
  rcases open_slice Try.underlying44 h with ⟨hcs, hx⟩ | ⟨a', len', cap', m, n', D, Pl, hcs, _, hl, _, hm, hx, hi⟩
  · simp at hcs
    obtain ⟨_, rfl, _⟩ := hcs
    exact ⟨fun k hk => by omega, [], [], .inl ⟨by rw [hx], rfl⟩⟩
  · simp at hcs
    obtain ⟨rfl, rfl, rfl⟩ := hcs
    refine ⟨fun k hk => ?_, (List.range len).map D, _, .inr ⟨by rw [hx], by simp⟩⟩
    have hkm : k < m := by rw [hm]; split <;> omega
    obtain ⟨cs', hc, ht⟩ := hi k hkm
    rw [cellsOp] at hc
    obtain ⟨_, hlen, hcell⟩ := World.cells?_some hc
    obtain ⟨kd, t, bb, rfl, wb⟩ := three_of ht
    have q0 := hcell 0 (by omega)
    have q1 := hcell 1 (by omega)
    have q2 := hcell 2 (by omega)
    obtain ⟨b, off, spot⟩ := a'
    have hspot : spot = none := by
      obtain ⟨cs0, hc0, ht0⟩ := hi 0 (by omega)
      rw [cellsOp] at hc0
      obtain ⟨_, _, hcell0⟩ := World.cells?_some hc0
      obtain ⟨_, _, _, rfl, _⟩ := three_of ht0
      have h0 := World.cell?_spot (hcell0 0 (by omega))
      simpa [Addr.add] using h0
    subst hspot
    simp only [Go.WideShapes.add_plain] at q0 q1 q2
    exact ⟨b, off, kd, t, bb, rfl, cell_block q0, ⟨by simpa using q0, by simpa using q1, by simpa using q2⟩, wb⟩
end

/-! ### Has -/
def among (xs : List Int) (x : Int) : Bool := xs.any (fun y => y == x)
theorem has_any {w : World} {g n c : Nat} {xs : List Int} (h : Blk w g 3 (cellsOf xs)) (hn : n ≤ xs.length) (hs : n ≤ 1000000) (x : Int) :
    Calls Try.prog 17 #[.slice (some ⟨g, 0, none⟩) n c, .int .i64 x] w fun e w' => e = .returned (.bool (among (xs.take n) x)) ∧ w = w' := by
  have H := Lib.hid h; clear h
  go_enter Try.func17, Try.ntmps17
  go_wp2
  go_loop [5] (fun i => ∃ k : Nat, k ≤ n ∧ i = .int .i64 k ∧ Hid (among (xs.take k) x = false)) (fun i => n - (intOf i).toNat)
  case atStart => exact ⟨0, by omega, rfl, Lib.hid rfl⟩
  case round =>
    obtain ⟨k, hk, rfl, HA⟩ := hrel
    by_cases hlt : k < n
    · have hc := H.out.cell k
      rw [cellsOf_get (by omega)] at hc
      have hs : among (xs.take (k + 1)) x = (among (xs.take k) x || (xs.getD k 0 == x)) := by
        have e : xs.getD k 0 = xs[k] := by simp [List.getD, show k < xs.length by omega]
        unfold among
        rw [List.take_succ_eq_append_getElem (by omega), List.any_append, e]
        simp
      rw [HA.out, Bool.false_or] at hs
      generalize xs.getD k 0 = y at hc hs
      cases hy : (y == x) with
      | true =>
        rw [hy] at hs
        have hfin : among (xs.take n) x = true := by
          unfold among at hs ⊢
          rw [List.any_eq_true] at hs ⊢
          obtain ⟨z, hz, he⟩ := hs
          exact ⟨z, List.take_subset_take_left _ (by omega) hz, he⟩
        have HF := Lib.hid hfin; clear hfin hs
        go_wp2
        go_ret
        exact ⟨by rw [HF.out]; rfl, rfl⟩
      | false =>
        rw [hy] at hs
        have HN := Lib.hid hs; clear hs
        go_wp2
        go_round
        case rel => exact ⟨k + 1, by omega, by go_num, HN⟩
        case measure => simp [intOf]; omega
    · obtain rfl : k = n := by omega
      go_wp2
      go_ret
      exact ⟨by rw [HA.out]; rfl, rfl⟩

end Go.Proofs.Ytiiaajdkkofbjaa

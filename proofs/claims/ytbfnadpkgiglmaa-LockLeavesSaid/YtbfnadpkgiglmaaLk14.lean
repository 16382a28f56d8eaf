/-
  What a walk is told of a script of calls on mutexes that came in; single calls on a mutex that is there, by what it is told of that one. Conditions: no count is above 2^62.
-/
import Derived.Test.YtbfnadpkgiglmaaLk11
import Derived.Test.YtbfnadpkgiglmaaLk12
import Derived.Deep.Slices
import Derived.Deep.Fields
import Derived.SizedLaws
namespace Go.Proofs.Ytbfnadpkgiglmaa
open Go.RowKit Go.Maps Go.Deep Go.ChangeShapes Go.WideShapes
set_option linter.unusedVariables false
set_option linter.unusedSimpArgs false

/-- Call k of the script lies at its place, three numbers. -/
def IsOps (w : World) (a : Option Addr) (len : Nat) : Prop :=
  ∀ k, k < len → ∃ b off kd t ky, a = some ⟨b, off, none⟩ ∧ b < w.heap.size ∧ w.cell? ⟨b, off + k * 3, none⟩ = some (.int .i64 kd) ∧ w.cell? ⟨b, off + k * 3 + 1, none⟩ = some (.int .i64 t) ∧
    w.cell? ⟨b, off + k * 3 + 2, none⟩ = some (.int .i64 ky) ∧ (ik t).wf = true ∧ (ik ky).wf = true
theorem IsOps.keep {w w' : World} {a : Option Addr} {len : Nat} (h : IsOps w a len) (hb : Below w.heap.size w w') : IsOps w' a len := by
  intro k hk
  obtain ⟨b, off, kd, t, ky, ha, hlt, c0, c1, c2, c3, c4⟩ := h k hk
  have e : ∀ o, w'.cell? ⟨b, o, none⟩ = w.cell? ⟨b, o, none⟩ := fun o => hb.cell (p := ⟨b, o, none⟩) hlt
  exact ⟨b, off, kd, t, ky, ha, Nat.lt_of_lt_of_le hlt hb.size, by rw [e]; exact c0, by rw [e]; exact c1, by rw [e]; exact c2, c3, c4⟩

theorem cellsOp : Try.prog.cellsOf 29 = 3 := by kernel_rfl
theorem cells3' : Try.prog.cellsOf 3 = 1 := by kernel_rfl
theorem bytesOp : Try.prog.bytesOf 29 = 24 := by kernel_rfl

section
variable {H : Type} {enc : TypeId × Value → H} {w : World} {base : Nat} {spare : Nat → Bool} {held : Bool}
set_option maxRecDepth 100000 in
theorem three_of {n : Nat} {cs : List Value} {x : DataW H × List MemPlace} (h : DataW.trod enc Try.prog w base spare held n 29 cs = some x) :
    ∃ kd t ky : Int, cs = [.int .i64 kd, .int .i64 t, .int .i64 ky] ∧ (ik t).wf = true ∧ (ik ky).wf = true := by
  obtain ⟨xs, m, _, _, hlen, hxs, hf⟩ := DataW.trod_struct Try.underlying29 h
  rw [cellsOp] at hlen
  match cs, hlen with
  | [v0, v1, v2], _ =>
    match xs, hxs with
    | [y0, y1, y2], _ =>
      have g0 := hf 0 _ rfl
      have g1 := hf 1 _ rfl
      have g2 := hf 2 _ rfl
      simp [cells3'] at g0 g1 g2
      obtain ⟨n0, e0, _, w0⟩ := DataW.trod_int Try.underlying3 g0
      obtain ⟨n1, e1, _, w1⟩ := DataW.trod_int Try.underlying3 g1
      obtain ⟨n2, e2, _, w2⟩ := DataW.trod_int Try.underlying3 g2
      simp at e0 e1 e2
      subst e0 e1 e2
      exact ⟨n0, n1, n2, rfl, w1, w2⟩
set_option maxRecDepth 100000 in
/-- A script out of its reading, and how long it may be. -/
theorem ops_of {n len cap : Nat} {a : Option Addr} {x : DataW H × List MemPlace} (h : DataW.trod enc Try.prog w base spare held n 22 [.slice a len cap] = some x) :
    IsOps w a len ∧ ∃ es sp, (x.1 = .nil ∧ len = 0) ∨ (x.1 = .slice es sp ∧ es.length = len) := by
  rcases open_slice Try.underlying22 h with ⟨hcs, hx⟩ | ⟨a', len', cap', m, n', D, Pl, hcs, _, hl, _, hm, hx, hi⟩
  · simp at hcs
    obtain ⟨_, rfl, _⟩ := hcs
    exact ⟨fun k hk => by omega, [], [], .inl ⟨by rw [hx], rfl⟩⟩
  · simp at hcs
    obtain ⟨rfl, rfl, rfl⟩ := hcs
    refine ⟨fun k hk => ?_, (List.range len).map D, _, .inr ⟨by rw [hx], by simp⟩⟩
    have hkm : k < m := by rw [hm]; split <;> omega
    obtain ⟨cs', hc, ht⟩ := hi k hkm
    rw [cellsOp] at hc
    obtain ⟨_, hlen, hcell⟩ := World.cells?_some hc
    obtain ⟨kd, t, ky, rfl, wm, wt⟩ := three_of ht
    have q0 := hcell 0 (by omega)
    have q1 := hcell 1 (by omega)
    have q2 := hcell 2 (by omega)
    obtain ⟨b, off, spot⟩ := a'
    have hspot : spot = none := by
      obtain ⟨cs0, hc0, ht0⟩ := hi 0 (by omega)
      rw [cellsOp] at hc0
      obtain ⟨_, _, hcell0⟩ := World.cells?_some hc0
      obtain ⟨_, _, _, rfl, _⟩ := three_of ht0
      have h0 := World.cell?_spot (hcell0 0 (by omega))
      simpa [Addr.add] using h0
    subst hspot
    simp only [Go.WideShapes.add_plain] at q0 q1 q2
    exact ⟨b, off, kd, t, ky, rfl, cell_block q0, by simpa using q0, by simpa using q1, by simpa using q2, wm, wt⟩
end


structure SRel (w : World) (pa mb : Nat) (k : Nat) (wr : World) : Prop where
  at_ : ∃ L, LkAt wr pa mb L k ∧ L.length ≤ k
  bel : Below w.heap.size w wr

/-! ### Calls on a mutex that is there -/
theorem get_put {L : LS} {m : Int} {y : Lk} (h : LS.get L m = some y) (x : Lk) (hx : x.is = true) : LS.get (LS.put L m x) m = some x := by
  obtain ⟨i, rfl, h1, _, _⟩ := get_some h
  have e : ((i : Int) + 1 - 1).toNat = i := by omega
  unfold LS.put
  rw [e, get_set i x h1, if_pos rfl, if_pos hx]
section
variable {w : World} {pa mb : Nat} {L : LS} {c : Int} {m t : Int} {y : Lk}
theorem take_ok (h : LkAt w pa mb L c) (hc0 : 0 ≤ c) (hcb : c < 4611686018427387904) (hm : (ik m).wf = true) (hy : LS.get L m = some y) (ht : 1 ≤ t) (hok : y.ct = 0 ∨ y.ow = t) :
    Calls Try.prog 16 #[.pointer (some ⟨pa, 0, none⟩), .int .i64 m, .int .i64 t] w fun e w' => e = .returned (.int .i64 0) ∧ KeepL pa mb w w' ∧ ∃ L', LkAt w' pa mb L' (c + 1) ∧ LS.get L' m = some ⟨true, t, y.ct + 1⟩ := by
  refine (take_any h hc0 hcb hm t).mono ?_
  rintro e w' ⟨rfl, ha, hk⟩
  have hn : ¬ (0 < y.ct ∧ y.ow ≠ t) := by omega
  have h1 : ¬ t < 1 := by omega
  refine ⟨?_, hk, _, ha, ?_⟩
  · unfold LS.takeErr; rw [hy]; dsimp only; rw [if_neg h1, if_neg hn]
  · unfold LS.take; rw [hy]; dsimp only; rw [if_neg h1, if_neg hn]; exact get_put hy _ rfl
theorem take_no (h : LkAt w pa mb L c) (hc0 : 0 ≤ c) (hcb : c < 4611686018427387904) (hm : (ik m).wf = true) (hy : LS.get L m = some y) (ht : 1 ≤ t) (hno : 0 < y.ct ∧ y.ow ≠ t) :
    Calls Try.prog 16 #[.pointer (some ⟨pa, 0, none⟩), .int .i64 m, .int .i64 t] w fun e w' => e = .returned (.int .i64 141) ∧ KeepL pa mb w w' ∧ ∃ L', LkAt w' pa mb L' (c + 1) ∧ LS.get L' m = some y := by
  refine (take_any h hc0 hcb hm t).mono ?_
  rintro e w' ⟨rfl, ha, hk⟩
  have h1 : ¬ t < 1 := by omega
  refine ⟨?_, hk, _, ha, ?_⟩
  · unfold LS.takeErr; rw [hy]; dsimp only; rw [if_neg h1, if_pos hno]
  · unfold LS.take; rw [hy]; dsimp only; rw [if_neg h1, if_pos hno]; exact hy
theorem give_ok (h : LkAt w pa mb L c) (hc0 : 0 ≤ c) (hcb : c < 4611686018427387904) (hm : (ik m).wf = true) (hy : LS.get L m = some y) (ht : 1 ≤ t) (h1 : 1 ≤ y.ct) (h2 : y.ow = t) :
    Calls Try.prog 17 #[.pointer (some ⟨pa, 0, none⟩), .int .i64 m, .int .i64 t] w fun e w' => e = .returned (.int .i64 0) ∧ KeepL pa mb w w' ∧ ∃ L', LkAt w' pa mb L' c ∧ LS.get L' m = some ⟨true, if y.ct = 1 then 0 else t, y.ct - 1⟩ := by
  refine (give_any h hc0 hcb hm t).mono ?_
  rintro e w' ⟨rfl, ha, hk⟩
  have hn : ¬ (y.ct = 0 ∨ y.ow ≠ t) := by omega
  have h3 : ¬ t < 1 := by omega
  refine ⟨?_, hk, _, ha, ?_⟩
  · unfold LS.giveErr; rw [hy]; dsimp only; rw [if_neg h3, if_neg hn]
  · unfold LS.give; rw [hy]; dsimp only; rw [if_neg h3, if_neg hn]
    by_cases h4 : y.ct = 1
    · rw [if_pos h4, if_pos h4, get_put hy _ rfl, h4]; rfl
    · rw [if_neg h4, if_neg h4, get_put hy _ rfl]
theorem give_no (h : LkAt w pa mb L c) (hc0 : 0 ≤ c) (hcb : c < 4611686018427387904) (hm : (ik m).wf = true) (hy : LS.get L m = some y) (ht : 1 ≤ t) (hno : y.ct = 0 ∨ y.ow ≠ t) :
    Calls Try.prog 17 #[.pointer (some ⟨pa, 0, none⟩), .int .i64 m, .int .i64 t] w fun e w' => e = .returned (.int .i64 150) ∧ KeepL pa mb w w' ∧ ∃ L', LkAt w' pa mb L' c ∧ LS.get L' m = some y := by
  refine (give_any h hc0 hcb hm t).mono ?_
  rintro e w' ⟨rfl, ha, hk⟩
  have h3 : ¬ t < 1 := by omega
  refine ⟨?_, hk, _, ha, ?_⟩
  · unfold LS.giveErr; rw [hy]; dsimp only; rw [if_neg h3, if_pos hno]
  · unfold LS.give; rw [hy]; dsimp only; rw [if_neg h3, if_pos hno]; exact hy
end
theorem and31 (n : Int) : 0 ≤ bits BinOp.and IntKind.i64 n 31 ∧ bits BinOp.and IntKind.i64 n 31 ≤ 31 := by
  have e : ((BitVec.ofInt 64 n &&& BitVec.ofInt 64 31).toNat) ≤ 31 := by
    rw [BitVec.toNat_and]; exact Nat.and_le_right
  show 0 ≤ IntKind.i64.wrap (((BitVec.ofInt 64 n &&& BitVec.ofInt 64 31).toNat : Nat) : Int) ∧ IntKind.i64.wrap (((BitVec.ofInt 64 n &&& BitVec.ofInt 64 31).toNat : Nat) : Int) ≤ 31
  rw [IntKind.wrap_i64]; omega
end Go.Proofs.Ytbfnadpkgiglmaa

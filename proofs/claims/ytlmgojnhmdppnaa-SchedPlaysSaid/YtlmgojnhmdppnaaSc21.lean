/-
  What a walk is told of a script of calls on a scheduler that came in; one call of it, where the document's scheduler is none; what a call does to the counts. Conditions: fewer than 2^62 threads were made.
-/
import Derived.Test.YtlmgojnhmdppnaaSc20
import Derived.Deep.Slices
import Derived.Deep.Fields
import Derived.SizedLaws
namespace Go.Proofs.Ytlmgojnhmdppnaa
open Go.RowKit Go.Maps Go.Deep Go.ChangeShapes Go.WideShapes
set_option linter.unusedVariables false

/-- Call k of the script lies at its place, three numbers. -/
def IsOps (w : World) (a : Option Addr) (len : Nat) : Prop :=
  ∀ k, k < len → ∃ b off kd t ky, a = some ⟨b, off, none⟩ ∧ b < w.heap.size ∧ w.cell? ⟨b, off + k * 3, none⟩ = some (.int .i64 kd) ∧ w.cell? ⟨b, off + k * 3 + 1, none⟩ = some (.int .i64 t) ∧
    w.cell? ⟨b, off + k * 3 + 2, none⟩ = some (.int .i64 ky)
theorem IsOps.keep {w w' : World} {a : Option Addr} {len : Nat} (h : IsOps w a len) (hb : Below w.heap.size w w') : IsOps w' a len := by
  intro k hk
  obtain ⟨b, off, kd, t, ky, ha, hlt, c0, c1, c2⟩ := h k hk
  have e : ∀ o, w'.cell? ⟨b, o, none⟩ = w.cell? ⟨b, o, none⟩ := fun o => hb.cell (p := ⟨b, o, none⟩) hlt
  exact ⟨b, off, kd, t, ky, ha, Nat.lt_of_lt_of_le hlt hb.size, by rw [e]; exact c0, by rw [e]; exact c1, by rw [e]; exact c2⟩

theorem cellsOp : Try.prog.cellsOf 85 = 3 := by kernel_rfl
theorem cells3 : Try.prog.cellsOf 3 = 1 := by kernel_rfl
theorem bytesOp : Try.prog.bytesOf 85 = 24 := by kernel_rfl

section
variable {H : Type} {enc : TypeId × Value → H} {w : World} {base : Nat} {spare : Nat → Bool} {held : Bool}
set_option maxRecDepth 100000 in
theorem three_of {n : Nat} {cs : List Value} {x : DataW H × List MemPlace} (h : DataW.trod enc Try.prog w base spare held n 85 cs = some x) :
    ∃ kd t ky : Int, cs = [.int .i64 kd, .int .i64 t, .int .i64 ky] := by
  obtain ⟨xs, m, _, _, hlen, hxs, hf⟩ := DataW.trod_struct Try.underlying85 h
  rw [cellsOp] at hlen
  match cs, hlen with
  | [v0, v1, v2], _ =>
    match xs, hxs with
    | [y0, y1, y2], _ =>
      have g0 := hf 0 _ rfl
      have g1 := hf 1 _ rfl
      have g2 := hf 2 _ rfl
      simp [cells3] at g0 g1 g2
      obtain ⟨n0, e0, _, w0⟩ := DataW.trod_int Try.underlying3 g0
      obtain ⟨n1, e1, _, w1⟩ := DataW.trod_int Try.underlying3 g1
      obtain ⟨n2, e2, _, w2⟩ := DataW.trod_int Try.underlying3 g2
      simp at e0 e1 e2
      subst e0 e1 e2
      exact ⟨n0, n1, n2, rfl⟩
set_option maxRecDepth 100000 in
/-- A script out of its reading, and how long it may be. -/
theorem ops_of {n len cap : Nat} {a : Option Addr} {x : DataW H × List MemPlace} (h : DataW.trod enc Try.prog w base spare held n 78 [.slice a len cap] = some x) :
    IsOps w a len ∧ ∃ es sp, (x.1 = .nil ∧ len = 0) ∨ (x.1 = .slice es sp ∧ es.length = len) := by
  rcases open_slice Try.underlying78 h with ⟨hcs, hx⟩ | ⟨a', len', cap', m, n', D, Pl, hcs, _, hl, _, hm, hx, hi⟩
  · simp at hcs
    obtain ⟨_, rfl, _⟩ := hcs
    exact ⟨fun k hk => by omega, [], [], .inl ⟨by rw [hx], rfl⟩⟩
  · simp at hcs
    obtain ⟨rfl, rfl, rfl⟩ := hcs
    refine ⟨fun k hk => ?_, (List.range len).map D, _, .inr ⟨by rw [hx], by simp⟩⟩
    have hkm : k < m := by rw [hm]; split <;> omega
    obtain ⟨cs', hc, ht⟩ := hi k hkm
    rw [cellsOp] at hc
    obtain ⟨_, hlen, hcell⟩ := World.cells?_some hc
    obtain ⟨kd, t, ky, rfl⟩ := three_of ht
    have q0 := hcell 0 (by omega)
    have q1 := hcell 1 (by omega)
    have q2 := hcell 2 (by omega)
    obtain ⟨b, off, spot⟩ := a'
    have hspot : spot = none := by
      obtain ⟨cs0, hc0, ht0⟩ := hi 0 (by omega)
      rw [cellsOp] at hc0
      obtain ⟨_, _, hcell0⟩ := World.cells?_some hc0
      obtain ⟨_, _, _, rfl⟩ := three_of ht0
      have h0 := World.cell?_spot (hcell0 0 (by omega))
      simpa [Addr.add] using h0
    subst hspot
    simp only [Go.WideShapes.add_plain] at q0 q1 q2
    exact ⟨b, off, kd, t, ky, rfl, cell_block q0, by simpa using q0, by simpa using q1, by simpa using q2⟩
end

/-! ### One call, where the document's scheduler is none -/
def rNil : RS := ⟨[], [], 0, 0, 0⟩
abbrev ZM : Value := .agg #[.slice none 0 0, .slice none 0 0, .int .i64 0, .int .i64 0, .int .i64 0]
theorem nil_at (w : World) : RAt w none 0 none 0 rNil := ⟨World.ownsRow_nil _ _ _ _, World.ownsRow_nil _ _ _ _⟩
theorem does_zero {w : World} {B ps : Nat} {Z : ZS} (h : Zd w (fun k => k < B) ps Z) (hB : B ≤ w.heap.size) (k t key : Int) (hsp : Z.spawned < 4611686018427387903) :
    Calls Try.prog 42 #[.pointer (some ⟨ps, 0, none⟩), ZM, .agg #[.int .i64 k, .int .i64 t, .int .i64 key]] w fun e w' => (∃ r, e = .returned r) ∧ Zd w' (fun k => k < B) ps (Z.step k t key) ∧ Keep (fun k => k < B) w w' ∧ NumKeep w w' := by
  refine (does_any h.nums (nums_new hB) (fun g cs hb => .inr ⟨cs, hb⟩) (nil_at w) (by show 0 ≤ _; omega) k t key hsp).mono ?_
  rintro e w' ⟨sa, sc, ka, kc, rfl, hE⟩
  exact ⟨⟨_, rfl⟩, hE.zd.old, hE.kp.old, NumKeep.keep hE.kp⟩

/-! ### The counts -/
structure InvS (Z : ZS) (k : Nat) : Prop where
  g0 : 0 ≤ Z.good
  g1 : Z.good ≤ k
  b0 : 0 ≤ Z.bad
  b1 : Z.bad ≤ k
  sp : Z.spawned ≤ k
theorem wrap_small {x : Int} (h0 : 0 ≤ x) (h1 : x ≤ 4611686018427387904) : wrap64 x = x := by
  have := IntKind.wrap_i64 (n := x); unfold wrap64; omega
theorem InvS.mono {Z : ZS} {k m : Nat} (h : InvS Z k) (hm : k ≤ m) : InvS Z m := ⟨h.g0, by have := h.g1; omega, h.b0, by have := h.b1; omega, by have := h.sp; omega⟩
theorem InvS.step {Z : ZS} {k : Nat} (h : InvS Z k) (hk : k < 4611686018427387903) (c t key : Int) : InvS (Z.step c t key) (k + 1) := by
  have hm := h.mono (Nat.le_succ k)
  have g0 := h.g0
  have g1 := h.g1
  have b0 := h.b0
  have b1 := h.b1
  have sp := h.sp
  unfold ZS.step
  split
  · unfold ZS.spawn; split
    · exact ⟨g0, hm.g1, b0, hm.b1, by dsimp only; omega⟩
    · exact hm
  · split
    · unfold ZS.block; split
      · exact ⟨g0, hm.g1, b0, hm.b1, hm.sp⟩
      · exact hm
    · split
      · unfold ZS.stop; split
        · exact ⟨g0, hm.g1, b0, hm.b1, hm.sp⟩
        · exact hm
      · split
        · unfold ZS.free; split
          · exact ⟨g0, hm.g1, b0, hm.b1, hm.sp⟩
          · exact hm
        · split
          · exact ⟨g0, hm.g1, b0, hm.b1, hm.sp⟩
          · split
            · unfold ZS.pick; split
              · refine ⟨?_, ?_, b0, hm.b1, hm.sp⟩
                · dsimp only; rw [wrap_small (by omega) (by omega)]; omega
                · dsimp only; rw [wrap_small (by omega) (by omega)]; omega
              · refine ⟨g0, hm.g1, ?_, ?_, hm.sp⟩
                · dsimp only; rw [wrap_small (by omega) (by omega)]; omega
                · dsimp only; rw [wrap_small (by omega) (by omega)]; omega
            · exact hm
theorem InvS.new (n : Int) : InvS ⟨n, 0, [], 0, 0⟩ 0 := ⟨Int.le_refl _, Int.le_refl _, Int.le_refl _, Int.le_refl _, Int.le_refl _⟩
theorem pick_ths (Z : ZS) (t : Int) : (Z.pick t).ths = Z.ths := by unfold ZS.pick; split <;> rfl
theorem mem_ready {n : Int} {l : List Th} (hr : Rising n l) (t : Int) : among (readyT l) t = (stOf l t == 1) := by
  rw [Bool.eq_iff_iff, among_iff]
  unfold readyT
  simp only [List.mem_map, List.mem_filter, beq_iff_eq]
  constructor
  · rintro ⟨r, ⟨hr1, hs⟩, rfl⟩
    obtain ⟨i, hi, rfl⟩ := List.mem_iff_getElem.1 hr1
    obtain ⟨_, he⟩ := stOf_some (idx_at hr hi)
    rw [he]; exact hs
  · intro hs
    cases hx : idx l t with
    | none => rw [stOf_none hx] at hs; omega
    | some i =>
      obtain ⟨hi, he⟩ := stOf_some hx
      obtain ⟨_, hno⟩ := idx_some hx
      exact ⟨l[i], ⟨List.getElem_mem _, by rw [← he]; exact hs⟩, hno⟩
end Go.Proofs.Ytlmgojnhmdppnaa

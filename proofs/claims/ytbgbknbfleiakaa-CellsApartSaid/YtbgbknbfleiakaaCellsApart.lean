/-
  CellsApart holds: for every two scripts and every block, what the block holds changes with no call for another one, and what is freed tells nothing any more. No condition.
-/
import Derived.Test.YtbgbknbfleiakaaApart
import Derived.ProofKit
import Derived.OpenShut
import Derived.ShutString
import Derived.ChangeOld
namespace Go.Proofs.Ytbgbknbfleiakaa.cellsApart
open Go.ChangeShapes Go.WideShapes Go.ChangeAt Go.RowKit
set_option linter.unusedVariables false

theorem own : ownKnob Try.prog.godebug = none := by kernel_rfl
theorem laidOut : laidOutB Try.prog = true := by kernel_rfl

set_option maxRecDepth 100000 in
theorem lifted (os : Os) (started : os.Started) (H : Type) (enc : TypeId × Value → H) :
    ReturnsInHanded {} Try.checked os 4 .any (Rows.cellsApartSpec.pre6 enc Try.prog Try.f4 Rows.cellsApartRow.domain false) (Rows.cellsApartSpec.post enc Try.prog Try.f4 false true false false) := by
  refine returnsInHanded_of_change_sized (C := Try.checked) own started (by kernel_rfl) Try.func4
    (ChangeSpec.witness6 (enc := enc) (C := Try.checked) false ⟨#[], #[.slice none 0 0, .slice none 0 0, .int .i64 0], []⟩ 8 (by kernel_rfl) (by kernel_rfl) (by kernel_rfl) (by kernel_rfl)) ?_
  intro W base args ds gs before hval0 hW hcnd hsz _
  have hval : ∀ (j : Nat) t v, Try.f4.params[j]? = some t → args[j]? = some v → Value.okWide Try.prog W .any base t v := hval0
  have hW' := hW
  obtain ⟨p, q, hA0, hV, rfl, hfz, hnd⟩ := hW
  have hA : DataW.TrodAll enc Try.prog W 0 (fun _ => true) true Try.f4.params.toList args.toList ds p := hA0
  rw [Try.params4] at hA hval
  obtain ⟨v0, vs0, d0, ds0, p0, q0, hargs, rfl, rfl, h0, r0⟩ := trodAll_cons hA
  obtain ⟨v1, vs1, d1, ds1, p1, q1, rfl, rfl, rfl, h1, r1⟩ := trodAll_cons r0
  obtain ⟨v2, vs2, d2, ds2, p2, q2, rfl, rfl, rfl, h2, r2⟩ := trodAll_cons r1
  obtain ⟨rfl, rfl, rfl⟩ := trodAll_nil r2
  obtain rfl : args = #[v0, v1, v2] := by cases args; simp_all
  obtain ⟨rfl, rfl⟩ := trodVars_none hV
  obtain ⟨a0, len0, cap0, rfl⟩ := okWide_slice Try.underlying22 (hval 0 22 v0 rfl rfl)
  have k0 := h0
  have lt0 : ∀ x ∈ p0, x.block < W.heap.size := by obtain ⟨m, hm⟩ := k0; exact DataW.trod_lt m _ _ _ hm
  obtain ⟨a1, len1, cap1, rfl⟩ := okWide_slice Try.underlying22 (hval 1 22 v1 rfl rfl)
  have k1 := h1
  have lt1 : ∀ x ∈ p1, x.block < W.heap.size := by obtain ⟨m, hm⟩ := k1; exact DataW.trod_lt m _ _ _ hm
  obtain ⟨n2, rfl, rfl, rfl, w2⟩ := open_int Try.underlying3 (hval 2 3 v2 rfl rfl) h2
  obtain ⟨fuel0, hf0⟩ := h0
  obtain ⟨hops0, es0, sp0, hes0⟩ := ops_of (by simpa [Value.cells] using hf0)
  obtain ⟨fuel, hf⟩ := h1
  obtain ⟨hops, es, sp, hes⟩ := ops_of (by simpa [Value.cells] using hf)
  have hlen0 : len0 ≤ 1152921504606846000 := by
    rcases hes0 with ⟨_, hl⟩ | ⟨hd, hl⟩
    · omega
    · have this : (es0.length + sp0.length) * Try.prog.bytesOf 31 ≤ reachBytes := sized_slice hsz (j := 0) (t := 22) (e := 31) (elems := es0) (spare := sp0) (by rw [Try.params4]; rfl) (by simp only at hd; rw [hd]; rfl) Try.underlying22
      rw [bytes31, hl] at this
      unfold reachBytes at this
      omega
  have hlen : len1 ≤ 1152921504606846000 := by
    rcases hes with ⟨_, hl⟩ | ⟨hd, hl⟩
    · omega
    · have this : (es.length + sp.length) * Try.prog.bytesOf 31 ≤ reachBytes := sized_slice hsz (j := 1) (t := 22) (e := 31) (elems := es) (spare := sp) (by rw [Try.params4]; rfl) (by simp only at hd; rw [hd]; rfl) Try.underlying22
      rw [bytes31, hl] at this
      unfold reachBytes at this
      omega
  clear hA0 hval0
  refine (apart_walk a0 len0 cap0 a1 len1 cap1 n2 W hops0 hops hlen0 hlen w2).mono fun e W' ⟨he, bel⟩ => ?_
  subst he
  exact ⟨_, rfl, _, _, _, [], _, [], hW', trodAll_mk1 (shut_bool Try.underlying4 _), (trodAll_cons_mk (Below.trod laidOut (by kernel_rfl) (of_decide_eq_true (by kernel_rfl)) k0 bel lt0) (trodAll_cons_mk (Below.trod laidOut (by kernel_rfl) (of_decide_eq_true (by kernel_rfl)) k1 bel lt1) (trodAll_cons_mk (shut_int Try.underlying3 w2) trodAll_mk0))), rfl, bel.frame _, fun h => by cases h⟩

theorem over : Rows.cellsApartRow.holds Try.pinned (OpenSpec.ofChange Rows.cellsApartSpec) :=
  OpenClaim.holds_of_wide 4 Try.f4 rfl rfl rfl rfl rfl rfl rfl ⟨rfl, rfl, rfl, rfl, rfl⟩ rfl rfl rfl rfl rfl (by kernel_rfl) Try.func4 (by kernel_rfl)
    (of_decide_eq_true (by kernel_rfl)) (by unfold Func.isWrapper; first | (rw [if_pos (by decide +kernel)]; kernel_rfl) | (rw [if_neg (by decide +kernel)]; exact ⟨rfl, rfl⟩))
    (fun os started H enc _ => lifted os started H enc)
end Go.Proofs.Ytbgbknbfleiakaa.cellsApart
namespace Go.Proofs.Ytbgbknbfleiakaa
theorem cellsApart_holds : Rows.CellsApartSaid := cellsApart.over
end Go.Proofs.Ytbgbknbfleiakaa

/-
  ArithDeep holds: for every name and every two terms: a term of two arguments is worth what its operation is of what they are worth; a ball of the left one comes ahead of one of the right one, and both ahead of the own one of the operation. No condition.
-/
import Derived.Test.YtmgephleogiaoaaQAr20
import Derived.WalkKit
import Derived.ProofKit
import Derived.OpenShut
import Derived.ShutString
import Derived.ChangeOld
import Derived.Below
import Derived.WideShapes
namespace Go.Proofs.Ytmgephleogiaoaa.arithDeep
open Go.ChangeShapes Go.WideShapes Go.ChangeAt Go.RowKit
set_option linter.unusedVariables false
theorem own : ownKnob Try.prog.godebug = none := by kernel_rfl
theorem laidOut : laidOutB Try.prog = true := by kernel_rfl
set_option maxRecDepth 100000 in
theorem lifted (os : Os) (started : os.Started) (H : Type) (enc : TypeId × Value → H) :
    ReturnsInHanded {} Try.checked os 7 .any (Rows.arithDeepSpec.pre6 enc Try.prog Try.f7 Rows.arithDeepRow.domain false) (Rows.arithDeepSpec.post enc Try.prog Try.f7 false true false false) := by
  refine returnsInHanded_of_change_sized (C := Try.checked) own started (by kernel_rfl) Try.func7
    (ChangeSpec.witness6 (enc := enc) (C := Try.checked) false ⟨#[], #[.string ⟨#[]⟩, .agg #[.int .i64 0, .string ⟨#[]⟩, .int .i64 0, .slice none 0 0], .agg #[.int .i64 0, .string ⟨#[]⟩, .int .i64 0, .slice none 0 0]], []⟩ 8 (by kernel_rfl) (by kernel_rfl) (by kernel_rfl) (by kernel_rfl)) ?_
  intro W base args ds gs before hval0 hW hcnd hsz _
  have hval : ∀ (j : Nat) t v, Try.f7.params[j]? = some t → args[j]? = some v → Value.okWide Try.prog W .any base t v := hval0
  have hW' := hW
  obtain ⟨p, q, hA0, hV, rfl, hfz, hnd⟩ := hW
  have hA : DataW.TrodAll enc Try.prog W 0 (fun _ => true) true Try.f7.params.toList args.toList ds p := hA0
  rw [Try.params7] at hA hval
  obtain ⟨v0, vs0, d0, ds0, p0, q0, hargs, rfl, rfl, h0, r0⟩ := trodAll_cons hA
  obtain ⟨v1, vs1, d1, ds1, p1, q1, rfl, rfl, rfl, h1, r1⟩ := trodAll_cons r0
  obtain ⟨v2, vs2, d2, ds2, p2, q2, rfl, rfl, rfl, h2, r2⟩ := trodAll_cons r1
  obtain ⟨rfl, rfl, rfl⟩ := trodAll_nil r2
  obtain rfl : args = #[v0, v1, v2] := by cases args; simp_all
  obtain ⟨rfl, rfl⟩ := trodVars_none hV
  obtain ⟨s0, rfl, rfl, rfl, w0⟩ := Go.ChangeMaps.open_string Try.underlying9 (hval 0 9 v0 rfl rfl) h0
  obtain ⟨L0, rfl⟩ : ∃ L, s0 = str L := ⟨s0.data.toList, str_of rfl⟩
  obtain ⟨cs1, rfl, cz1⟩ := okWide_struct Try.underlying24 (hval 1 24 v1 rfl rfl)
  have k1 := h1
  have lt1 : ∀ x ∈ p1, x.block < W.heap.size := by obtain ⟨m, hm⟩ := k1; exact DataW.trod_lt m _ _ _ hm
  obtain ⟨t1, a1, cc1, eq1, hT1⟩ : ∃ t a c, cs1 = #[.int .i64 (Tm.k t), .string (str (Tm.nm t)), .int .i64 (Tm.i t), .slice a (Tm.args t).length c] ∧ TmAt W.heap.size W t a c := by
    obtain ⟨fuel, hf⟩ := h1
    obtain ⟨t, a, c, he, hT⟩ := tm_of _ (by simpa [Value.cells] using hf)
    exact ⟨t, a, c, Array.ext' (by rw [he]; rfl), hT⟩
  subst eq1
  obtain ⟨cs2, rfl, cz2⟩ := okWide_struct Try.underlying24 (hval 2 24 v2 rfl rfl)
  have k2 := h2
  have lt2 : ∀ x ∈ p2, x.block < W.heap.size := by obtain ⟨m, hm⟩ := k2; exact DataW.trod_lt m _ _ _ hm
  obtain ⟨t2, a2, cc2, eq2, hT2⟩ : ∃ t a c, cs2 = #[.int .i64 (Tm.k t), .string (str (Tm.nm t)), .int .i64 (Tm.i t), .slice a (Tm.args t).length c] ∧ TmAt W.heap.size W t a c := by
    obtain ⟨fuel, hf⟩ := h2
    obtain ⟨t, a, c, he, hT⟩ := tm_of _ (by simpa [Value.cells] using hf)
    exact ⟨t, a, c, Array.ext' (by rw [he]; rfl), hT⟩
  subst eq2
  clear hA0 hval0
  have hw := deep_walk hT1 hT2 (by rw [← str_size]; exact w0)
  refine (hw).mono fun e W' ⟨he, kp⟩ => ?_
  subst he
  have bel : Below W.heap.size W W' := kp.toBelow (fun k hk => hk) (Nat.le_refl _)
  exact ⟨_, rfl, _, _, _, [], _, [], hW', trodAll_mk1 (shut_bool Try.underlying4 _), (trodAll_cons_mk (Go.ChangeMaps.shut_string Try.underlying9 w0) (trodAll_cons_mk (Below.trod laidOut (by kernel_rfl) (of_decide_eq_true (by kernel_rfl)) k1 bel lt1) (trodAll_cons_mk (Below.trod laidOut (by kernel_rfl) (of_decide_eq_true (by kernel_rfl)) k2 bel lt2) trodAll_mk0))), rfl, bel.frame _, fun h => by cases h⟩
theorem over : Rows.arithDeepRow.holds Try.pinned (OpenSpec.ofChange Rows.arithDeepSpec) :=
  OpenClaim.holds_of_wide 7 Try.f7 rfl rfl rfl rfl rfl rfl rfl ⟨rfl, rfl, rfl, rfl, rfl⟩ rfl rfl rfl rfl rfl (by kernel_rfl) Try.func7 (by kernel_rfl)
    (of_decide_eq_true (by kernel_rfl)) (by unfold Func.isWrapper; first | (rw [if_pos (by decide +kernel)]; kernel_rfl) | (rw [if_neg (by decide +kernel)]; exact ⟨rfl, rfl⟩))
    (fun os started H enc _ => lifted os started H enc)
end Go.Proofs.Ytmgephleogiaoaa.arithDeep
namespace Go.Proofs.Ytmgephleogiaoaa
theorem arithDeep_holds : Rows.ArithDeepSaid := arithDeep.over
end Go.Proofs.Ytmgephleogiaoaa

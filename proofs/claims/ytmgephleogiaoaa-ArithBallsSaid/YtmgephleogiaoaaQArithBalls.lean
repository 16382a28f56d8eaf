/-
  ArithBalls holds: for every name and every arguments: the ball of a right formal term is error of it and the empty list, a wrong one has none, and a fault of a name and arguments is the ball of their formal term. No condition.
-/
import Derived.Test.YtmgephleogiaoaaQAr19
import Derived.Test.YtmgephleogiaoaaQN2
import Derived.WalkKit
import Derived.ProofKit
import Derived.OpenShut
import Derived.ShutString
import Derived.ChangeOld
import Derived.Below
import Derived.WideShapes
namespace Go.Proofs.Ytmgephleogiaoaa.arithBalls
open Go.ChangeShapes Go.WideShapes Go.ChangeAt Go.RowKit
set_option linter.unusedVariables false
theorem own : ownKnob Try.prog.godebug = none := by kernel_rfl
theorem laidOut : laidOutB Try.prog = true := by kernel_rfl
set_option maxRecDepth 100000 in
theorem lifted (os : Os) (started : os.Started) (H : Type) (enc : TypeId × Value → H) :
    ReturnsInHanded {} Try.checked os 8 .any (Rows.arithBallsSpec.pre6 enc Try.prog Try.f8 Rows.arithBallsRow.domain false) (Rows.arithBallsSpec.post enc Try.prog Try.f8 false true false false) := by
  refine returnsInHanded_of_change_sized (C := Try.checked) own started (by kernel_rfl) Try.func8
    (ChangeSpec.witness6 (enc := enc) (C := Try.checked) false ⟨#[], #[.string ⟨#[]⟩, .slice none 0 0], []⟩ 8 (by kernel_rfl) (by kernel_rfl) (by kernel_rfl) (by kernel_rfl)) ?_
  intro W base args ds gs before hval0 hW hcnd hsz _
  have hval : ∀ (j : Nat) t v, Try.f8.params[j]? = some t → args[j]? = some v → Value.okWide Try.prog W .any base t v := hval0
  have hW' := hW
  obtain ⟨p, q, hA0, hV, rfl, hfz, hnd⟩ := hW
  have hA : DataW.TrodAll enc Try.prog W 0 (fun _ => true) true Try.f8.params.toList args.toList ds p := hA0
  rw [Try.params8] at hA hval
  obtain ⟨v0, vs0, d0, ds0, p0, q0, hargs, rfl, rfl, h0, r0⟩ := trodAll_cons hA
  obtain ⟨v1, vs1, d1, ds1, p1, q1, rfl, rfl, rfl, h1, r1⟩ := trodAll_cons r0
  obtain ⟨rfl, rfl, rfl⟩ := trodAll_nil r1
  obtain rfl : args = #[v0, v1] := by cases args; simp_all
  obtain ⟨rfl, rfl⟩ := trodVars_none hV
  obtain ⟨s0, rfl, rfl, rfl, w0⟩ := Go.ChangeMaps.open_string Try.underlying9 (hval 0 9 v0 rfl rfl) h0
  obtain ⟨L0, rfl⟩ : ∃ L, s0 = str L := ⟨s0.data.toList, str_of rfl⟩
  obtain ⟨a1, len1, cap1, rfl, hin1⟩ := okWide_sliceH Try.underlying22 (hval 1 22 v1 rfl rfl)
  have k1 := h1
  have lt1 : ∀ x ∈ p1, x.block < W.heap.size := by obtain ⟨m, hm⟩ := k1; exact DataW.trod_lt m _ _ _ hm
  obtain ⟨fuel1, hf1⟩ := h1
  obtain ⟨ps1, hl1, hS1, hd1⟩ := tmsl_of (by simpa [Value.cells] using hf1)
  have hlen1 : ps1.length ≤ 2305843009213693951 := by
    rcases hd1 with ⟨_, hz⟩ | ⟨es, sp, hx, hz⟩
    · omega
    · have this : (es.length + sp.length) * Try.prog.bytesOf 24 ≤ reachBytes := sized_slice hsz (j := 1) (t := 22) (e := 24) (elems := es) (spare := sp) (by rw [Try.params8]; rfl) (by simp only at hx; rw [hx]; rfl) Try.underlying22
      rw [bytesTm] at this
      unfold reachBytes at this
      omega
  subst hl1
  clear hA0 hval0
  have hw := balls_walk (sc := cap1) hS1 (by rw [← str_size]; exact w0) (Nat.le_trans hlen1 (by decide))
  refine (hw).mono fun e W' ⟨he, kp⟩ => ?_
  subst he
  have bel : Below W.heap.size W W' := kp.toBelow (fun k hk => hk) (Nat.le_refl _)
  exact ⟨_, rfl, _, _, _, [], _, [], hW', trodAll_mk1 (shut_bool Try.underlying4 _), (trodAll_cons_mk (Go.ChangeMaps.shut_string Try.underlying9 w0) (trodAll_cons_mk (Below.trod laidOut (by kernel_rfl) (of_decide_eq_true (by kernel_rfl)) k1 bel lt1) trodAll_mk0)), rfl, bel.frame _, fun h => by cases h⟩
theorem over : Rows.arithBallsRow.holds Try.pinned (OpenSpec.ofChange Rows.arithBallsSpec) :=
  OpenClaim.holds_of_wide 8 Try.f8 rfl rfl rfl rfl rfl rfl rfl ⟨rfl, rfl, rfl, rfl, rfl⟩ rfl rfl rfl rfl rfl (by kernel_rfl) Try.func8 (by kernel_rfl)
    (of_decide_eq_true (by kernel_rfl)) (by unfold Func.isWrapper; first | (rw [if_pos (by decide +kernel)]; kernel_rfl) | (rw [if_neg (by decide +kernel)]; exact ⟨rfl, rfl⟩))
    (fun os started H enc _ => lifted os started H enc)
end Go.Proofs.Ytmgephleogiaoaa.arithBalls
namespace Go.Proofs.Ytmgephleogiaoaa
theorem arithBalls_holds : Rows.ArithBallsSaid := arithBalls.over
end Go.Proofs.Ytmgephleogiaoaa

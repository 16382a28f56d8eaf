/-
  ArithPlays holds: for every term: whether it has a worth, its number, and its ball are as the document says; of a term that is not right there is nothing. No condition.
-/
import Derived.Test.YtmgephleogiaoaaPAr26
import Derived.WalkKit
import Derived.ProofKit
import Derived.OpenShut
import Derived.ShutString
import Derived.ChangeOld
import Derived.Below
import Derived.WideShapes
namespace Go.Proofs.Ytmgephleogiaoaa.arithPlays
open Go.ChangeShapes Go.WideShapes Go.ChangeAt Go.RowKit
set_option linter.unusedVariables false
theorem own:ownKnob Try.prog.godebug=none:=by kernel_rfl
theorem laidOut:laidOutB Try.prog=true:=by kernel_rfl
set_option maxRecDepth 100000 in
theorem lifted (os:Os) (started:os.Started) (H:Type) (enc:TypeId × Value→H) :
    ReturnsInHanded {} Try.checked os 3 .any (Rows.arithPlaysSpec.pre6 enc Try.prog Try.f3 Rows.arithPlaysRow.domain false) (Rows.arithPlaysSpec.post enc Try.prog Try.f3 false true false false):=by
  refine returnsInHanded_of_change_sized (C:=Try.checked) own started (by kernel_rfl) Try.func3
    (ChangeSpec.witness6 (enc:=enc) (C:=Try.checked) false ⟨#[],#[.agg #[.int .i64 0,.string ⟨#[]⟩,.int .i64 0,.slice none 0 0]],[]⟩ 8 (by kernel_rfl) (by kernel_rfl) (by kernel_rfl) (by kernel_rfl)) ?_
  intro W base args ds gs before hval0 hW hcnd hsz _
  have hval:∀ (j:Nat) t v,Try.f3.params[j]? = some t→args[j]? = some v→Value.okWide Try.prog W .any base t v:=hval0
  have hW':=hW
  obtain ⟨p,q,hA0,hV,rfl,hfz,hnd⟩:=hW
  have hA:DataW.TrodAll enc Try.prog W 0 (fun _=>true) true Try.f3.params.toList args.toList ds p:=hA0
  rw [Try.params3] at hA hval
  obtain ⟨v0,vs0,d0,ds0,p0,q0,hargs,rfl,rfl,h0,r0⟩:=trodAll_cons hA
  obtain ⟨rfl,rfl,rfl⟩:=trodAll_nil r0
  obtain rfl:args=#[v0]:=by cases args;simp_all
  obtain ⟨rfl,rfl⟩:=trodVars_none hV
  obtain ⟨cs0,rfl,cz0⟩:=okWide_struct Try.underlying24 (hval 0 24 v0 rfl rfl)
  have k0:=h0
  have lt0:∀ x ∈ p0,x.block < W.heap.size:=by obtain ⟨m,hm⟩:=k0;exact DataW.trod_lt m _ _ _ hm
  obtain ⟨t0,a0,cc0,eq0,hT0⟩:∃ t a c,cs0=#[.int .i64 (Tm.k t),.string (str (Tm.nm t)),.int .i64 (Tm.i t),.slice a (Tm.args t).length c]∧TmAt W.heap.size W t a c:=by
    obtain ⟨fuel,hf⟩:=h0
    obtain ⟨t,a,c,he,hT⟩:=tm_of _ (by simpa [Value.cells] using hf)
    exact ⟨t,a,c,Array.ext' (by rw [he];rfl),hT⟩
  subst eq0
  clear hA0 hval0
  have hw:=plays_walk hT0
  refine (hw).mono fun e W' ⟨he,kp⟩=>?_
  subst he
  have bel:Below W.heap.size W W':=kp.toBelow (fun k hk=>hk) (Nat.le_refl _)
  exact ⟨_,rfl,_,_,_,[],_,[],hW',trodAll_mk1 (shut_bool Try.underlying4 _),(trodAll_cons_mk (Below.trod laidOut (by kernel_rfl) (of_decide_eq_true (by kernel_rfl)) k0 bel lt0) trodAll_mk0),rfl,bel.frame _,fun h=>by cases h⟩
theorem over:Rows.arithPlaysRow.holds Try.pinned (OpenSpec.ofChange Rows.arithPlaysSpec) :=
  OpenClaim.holds_of_wide 3 Try.f3 rfl rfl rfl rfl rfl rfl rfl ⟨rfl,rfl,rfl,rfl,rfl⟩ rfl rfl rfl rfl rfl (by kernel_rfl) Try.func3 (by kernel_rfl)
    (of_decide_eq_true (by kernel_rfl)) (by unfold Func.isWrapper;first | (rw [if_pos (by decide +kernel)];kernel_rfl) | (rw [if_neg (by decide +kernel)];exact ⟨rfl,rfl⟩))
    (fun os started H enc _=>lifted os started H enc)
end Go.Proofs.Ytmgephleogiaoaa.arithPlays
namespace Go.Proofs.Ytmgephleogiaoaa
theorem arithPlays_holds:Rows.ArithPlaysSaid:=arithPlays.over
end Go.Proofs.Ytmgephleogiaoaa

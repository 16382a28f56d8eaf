/-
  PostOnce holds: for every bound and every terms, right or not: what is sent to a queue is got once each, by a pattern that fits everything, in the order in which it was sent; what Peek tells is a variant of it, and the same as what Get tells; then the queue is empty. No condition.
-/
import Derived.Test.YtjinmnekfhekpaaJPo10
import Derived.Test.YtjinmnekfhekpaaJTr1
import Derived.WalkKit
import Derived.ProofKit
import Derived.OpenShut
import Derived.ShutString
import Derived.ChangeOld
import Derived.Below
import Derived.WideShapes
namespace Go.Proofs.Ytjinmnekfhekpaa.postOnce
open Go.ChangeShapes Go.WideShapes Go.ChangeAt Go.RowKit
set_option linter.unusedVariables false
theorem own:ownKnob Try.prog.godebug=none:=by kernel_rfl
theorem laidOut:laidOutB Try.prog=true:=by kernel_rfl
set_option maxRecDepth 100000 in
theorem lifted (os:Os) (started:os.Started) (H:Type) (enc:TypeId × Value→H) :
    ReturnsInHanded {} Try.checked os 4 .any (Rows.postOnceSpec.pre6 enc Try.prog Try.f4 Rows.postOnceRow.domain false) (Rows.postOnceSpec.post enc Try.prog Try.f4 false true false false):=by
  refine returnsInHanded_of_change_sized (C:=Try.checked) own started (by kernel_rfl) Try.func4
    (ChangeSpec.witness6 (enc:=enc) (C:=Try.checked) false ⟨#[],#[.int .i64 0,.slice none 0 0],[]⟩ 8 (by kernel_rfl) (by kernel_rfl) (by kernel_rfl) (by kernel_rfl)) ?_
  intro W base args ds gs before hval0 hW hcnd hsz _
  have hval:∀ (j:Nat) t v,Try.f4.params[j]? = some t→args[j]? = some v→Value.okWide Try.prog W .any base t v:=hval0
  have hW':=hW
  obtain ⟨p,q,hA0,hV,rfl,hfz,hnd⟩:=hW
  have hA:DataW.TrodAll enc Try.prog W 0 (fun _=>true) true Try.f4.params.toList args.toList ds p:=hA0
  rw [Try.params4] at hA hval
  obtain ⟨v0,vs0,d0,ds0,p0,q0,hargs,rfl,rfl,h0,r0⟩:=trodAll_cons hA
  obtain ⟨v1,vs1,d1,ds1,p1,q1,rfl,rfl,rfl,h1,r1⟩:=trodAll_cons r0
  obtain ⟨rfl,rfl,rfl⟩:=trodAll_nil r1
  obtain rfl:args=#[v0,v1]:=by cases args;simp_all
  obtain ⟨rfl,rfl⟩:=trodVars_none hV
  obtain ⟨a0,rfl,rfl,rfl,w0⟩:=open_int Try.underlying3 (hval 0 3 v0 rfl rfl) h0
  obtain ⟨a1,len1,cap1,rfl,hin1⟩:=okWide_sliceH Try.underlying22 (hval 1 22 v1 rfl rfl)
  have k1:=h1
  have lt1:∀ x ∈ p1,x.block < W.heap.size:=by obtain ⟨m,hm⟩:=k1;exact DataW.trod_lt m _ _ _ hm
  obtain ⟨fuel1,hf1⟩:=h1
  obtain ⟨ps1,hl1,hS1,hd1⟩:=tmsl_of (by simpa [Value.cells] using hf1)
  have hlen1:ps1.length ≤ 2305843009213693951:=by
    rcases hd1 with ⟨_,hz⟩ | ⟨es,sp,hx,hz⟩
    · omega
    · have this:(es.length + sp.length) * Try.prog.bytesOf 24 ≤ reachBytes:=sized_slice hsz (j:=1) (t:=22) (e:=24) (elems:=es) (spare:=sp) (by rw [Try.params4];rfl) (by simp only at hx;rw [hx];rfl) Try.underlying22
      rw [bytesTm] at this
      unfold reachBytes at this
      omega
  subst hl1
  clear hA0 hval0
  have hw:=ponce_walk (most:=a0) (sc:=cap1) hS1 hlen1
  refine (hw).mono fun e W' ⟨he,kp⟩=>?_
  subst he
  have bel:Below W.heap.size W W':=kp.toBelow (fun k hk=>hk) (Nat.le_refl _)
  exact ⟨_,rfl,_,_,_,[],_,[],hW',trodAll_mk1 (shut_bool Try.underlying4 _),(trodAll_cons_mk (shut_int Try.underlying3 w0) (trodAll_cons_mk (Below.trod laidOut (by kernel_rfl) (of_decide_eq_true (by kernel_rfl)) k1 bel lt1) trodAll_mk0)),rfl,bel.frame _,fun h=>by cases h⟩
theorem over:Rows.postOnceRow.holds Try.pinned (OpenSpec.ofChange Rows.postOnceSpec) :=
  OpenClaim.holds_of_wide 4 Try.f4 rfl rfl rfl rfl rfl rfl rfl ⟨rfl,rfl,rfl,rfl,rfl⟩ rfl rfl rfl rfl rfl (by kernel_rfl) Try.func4 (by kernel_rfl)
    (of_decide_eq_true (by kernel_rfl)) (by unfold Func.isWrapper;first | (rw [if_pos (by decide +kernel)];kernel_rfl) | (rw [if_neg (by decide +kernel)];exact ⟨rfl,rfl⟩))
    (fun os started H enc _=>lifted os started H enc)
end Go.Proofs.Ytjinmnekfhekpaa.postOnce
namespace Go.Proofs.Ytjinmnekfhekpaa
theorem postOnce_holds:Rows.PostOnceSaid:=postOnce.over
end Go.Proofs.Ytjinmnekfhekpaa

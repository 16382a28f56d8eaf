/-
  TermApplies holds: for every term, every bindings, every number and every further terms: what Apply puts in, Rename renames, List makes and Items takes apart is as the document says. No condition.
-/
import Derived.Test.YtjinmnekfhekpaaQTo14
import Derived.Test.YtjinmnekfhekpaaQTr1
import Derived.WalkKit
import Derived.ProofKit
import Derived.OpenShut
import Derived.ShutString
import Derived.ChangeOld
import Derived.Below
import Derived.WideShapes
namespace Go.Proofs.Ytjinmnekfhekpaa.termApplies
open Go.ChangeShapes Go.WideShapes Go.ChangeAt Go.RowKit
set_option linter.unusedVariables false
theorem own:ownKnob Try.prog.godebug=none:=by kernel_rfl
theorem laidOut:laidOutB Try.prog=true:=by kernel_rfl
set_option maxRecDepth 100000 in
theorem lifted (os:Os) (started:os.Started) (H:Type) (enc:TypeId × Value→H) :
    ReturnsInHanded {} Try.checked os 3 .any (Rows.termAppliesSpec.pre6 enc Try.prog Try.f3 Rows.termAppliesRow.domain false) (Rows.termAppliesSpec.post enc Try.prog Try.f3 false true false false):=by
  refine returnsInHanded_of_change_sized (C:=Try.checked) own started (by kernel_rfl) Try.func3
    (ChangeSpec.witness6 (enc:=enc) (C:=Try.checked) false ⟨#[],#[.agg #[.int .i64 0,.string ⟨#[]⟩,.int .i64 0,.slice none 0 0],.slice none 0 0,.int .i64 0,.slice none 0 0],[]⟩ 8 (by kernel_rfl) (by kernel_rfl) (by kernel_rfl) (by kernel_rfl)) ?_
  intro W base args ds gs before hval0 hW hcnd hsz _;have hval:∀ (j:Nat) t v,Try.f3.params[j]? = some t→args[j]? = some v→Value.okWide Try.prog W .any base t v:=hval0;have hW':=hW;obtain ⟨p,q,hA0,hV,rfl,hfz,hnd⟩:=hW;have hA:DataW.TrodAll enc Try.prog W 0 (fun _=>true) true Try.f3.params.toList args.toList ds p:=hA0;rw [Try.params3] at hA hval;obtain ⟨v0,vs0,d0,ds0,p0,q0,hargs,rfl,rfl,h0,r0⟩:=trodAll_cons hA;obtain ⟨v1,vs1,d1,ds1,p1,q1,rfl,rfl,rfl,h1,r1⟩:=trodAll_cons r0;obtain ⟨v2,vs2,d2,ds2,p2,q2,rfl,rfl,rfl,h2,r2⟩:=trodAll_cons r1;obtain ⟨v3,vs3,d3,ds3,p3,q3,rfl,rfl,rfl,h3,r3⟩:=trodAll_cons r2;obtain ⟨rfl,rfl,rfl⟩:=trodAll_nil r3;obtain rfl:args=#[v0,v1,v2,v3]:=by cases args;simp_all
  obtain ⟨rfl,rfl⟩:=trodVars_none hV;obtain ⟨cs0,rfl,cz0⟩:=okWide_struct Try.underlying24 (hval 0 24 v0 rfl rfl);have k0:=h0;have lt0:∀ x ∈ p0,x.block < W.heap.size:=by obtain ⟨m,hm⟩:=k0;exact DataW.trod_lt m _ _ _ hm
  obtain ⟨t0,a0,cc0,eq0,hT0⟩:∃ t a c,cs0=#[.int .i64 (Tm.k t),.string (str (Tm.nm t)),.int .i64 (Tm.i t),.slice a (Tm.args t).length c]∧TmAt W.heap.size W t a c:=by
    obtain ⟨fuel,hf⟩:=h0;obtain ⟨t,a,c,he,hT⟩:=tm_of _ (by simpa [Value.cells] using hf);exact ⟨t,a,c,Array.ext' (by rw [he];rfl),hT⟩
  subst eq0;obtain ⟨a1,len1,cap1,rfl,hin1⟩:=okWide_sliceH Try.underlying25 (hval 1 25 v1 rfl rfl);have k1:=h1;have lt1:∀ x ∈ p1,x.block < W.heap.size:=by obtain ⟨m,hm⟩:=k1;exact DataW.trod_lt m _ _ _ hm
  obtain ⟨fuel1,hf1⟩:=h1;obtain ⟨ps1,hl1,hS1,hd1⟩:=bsl_of (by simpa [Value.cells] using hf1);have hlen1:ps1.length ≤ 2199023255551:=by
    rcases hd1 with ⟨_,hz⟩ | ⟨es,sp,hx,hz⟩
    · omega
    · have this:(es.length + sp.length) * Try.prog.bytesOf 29 ≤ reachBytes:=sized_slice hsz (j:=1) (t:=25) (e:=29) (elems:=es) (spare:=sp) (by rw [Try.params3];rfl) (by simp only at hx;rw [hx];rfl) Try.underlying25;rw [bytesBd] at this;unfold reachBytes at this;omega
  subst hl1;obtain ⟨a2,rfl,rfl,rfl,w2⟩:=open_int Try.underlying2 (hval 2 2 v2 rfl rfl) h2;obtain ⟨a3,len3,cap3,rfl,hin3⟩:=okWide_sliceH Try.underlying22 (hval 3 22 v3 rfl rfl);have k3:=h3;have lt3:∀ x ∈ p3,x.block < W.heap.size:=by obtain ⟨m,hm⟩:=k3;exact DataW.trod_lt m _ _ _ hm
  obtain ⟨fuel3,hf3⟩:=h3;obtain ⟨ps3,hl3,hS3,hd3⟩:=tmsl_of (by simpa [Value.cells] using hf3);have hlen3:ps3.length ≤ 2305843009213693951:=by
    rcases hd3 with ⟨_,hz⟩ | ⟨es,sp,hx,hz⟩
    · omega
    · have this:(es.length + sp.length) * Try.prog.bytesOf 24 ≤ reachBytes:=sized_slice hsz (j:=3) (t:=22) (e:=24) (elems:=es) (spare:=sp) (by rw [Try.params3];rfl) (by simp only at hx;rw [hx];rfl) Try.underlying22;rw [bytesTm] at this;unfold reachBytes at this;omega
  subst hl3;clear hA0 hval0;have hw:=applies_walk (sc:=cap1) (ec:=cap3) hT0 hS1 hin1 w2 hS3 hin3;refine (hw).mono fun e W' ⟨he,kp⟩=>?_;subst he;have bel:Below W.heap.size W W':=kp.toBelow (fun k hk=>hk) (Nat.le_refl _);exact ⟨_,rfl,_,_,_,[],_,[],hW',trodAll_mk1 (shut_bool Try.underlying4 _),(trodAll_cons_mk (Below.trod laidOut (by kernel_rfl) (of_decide_eq_true (by kernel_rfl)) k0 bel lt0) (trodAll_cons_mk (Below.trod laidOut (by kernel_rfl) (of_decide_eq_true (by kernel_rfl)) k1 bel lt1) (trodAll_cons_mk (shut_int Try.underlying2 w2) (trodAll_cons_mk (Below.trod laidOut (by kernel_rfl) (of_decide_eq_true (by kernel_rfl)) k3 bel lt3) trodAll_mk0)))),rfl,bel.frame _,fun h=>by cases h⟩
theorem over:Rows.termAppliesRow.holds Try.pinned (OpenSpec.ofChange Rows.termAppliesSpec) :=
  OpenClaim.holds_of_wide 3 Try.f3 rfl rfl rfl rfl rfl rfl rfl ⟨rfl,rfl,rfl,rfl,rfl⟩ rfl rfl rfl rfl rfl (by kernel_rfl) Try.func3 (by kernel_rfl)
    (of_decide_eq_true (by kernel_rfl)) (by unfold Func.isWrapper;first | (rw [if_pos (by decide +kernel)];kernel_rfl) | (rw [if_neg (by decide +kernel)];exact ⟨rfl,rfl⟩))
    (fun os started H enc _=>lifted os started H enc)
end Go.Proofs.Ytjinmnekfhekpaa.termApplies
namespace Go.Proofs.Ytjinmnekfhekpaa
theorem termApplies_holds:Rows.TermAppliesSaid:=termApplies.over
end Go.Proofs.Ytjinmnekfhekpaa

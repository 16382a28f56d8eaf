/-
  Results that lie in a cell, and none; rows of terms that grow, for walks with letter frames. No condition.
-/
import Derived.Test.YtjinmnekfhekpaaQMQ
import Derived.Laws.Rows
import Derived.Shelf.Abstract
namespace Go.Proofs.Ytjinmnekfhekpaa
open Go.RowKit Go.Maps
set_option linter.unusedVariables false
set_option linter.unusedSimpArgs false
def lb_ (n m:Nat):Array Bool:=((List.range n).map fun i=>m.testBit i).toArray
def ed_ (n:Nat):Edge:={ on:=n,ground:=.data }
def ec_ (n:Nat):Edge:={ on:=n,ground:=.chain }
def eg_ (n:Nat):Edge:={ on:=n,ground:=.guard }
def ep_ (n:Nat):Edge:={ on:=n,ground:=.phase }
section
variable {w w' V:World} {o:Obj} {b b':Nat} {t:TypeId} {cs:Array Value} {X:Nat→Prop}
theorem ba_ (hw:w'=w.alloc o) (h:Blk w b t cs):Blk w' b t cs:=by rw [hw];exact h.alloc o
theorem ka_ (hw:w'=w.alloc o) (h:Keep X V w):Keep X V w':=by rw [hw];exact h.alloc o
theorem nb_ (hb:b'=w.heap.size) (h:Blk w b t cs):b ≠ b':=by rw [hb];exact Nat.ne_of_lt h.lt
theorem lk_ (hb:b=w.heap.size) (h:Keep X V w):V.heap.size ≤ b:=by rw [hb];exact h.size
theorem kx_ (hk:Keep (fun g=>g ≠ b) w w') (h:Keep X V w) (hX:¬ X b):Keep X V w':=h.trans (hk.less fun g hg e=>hX (e ▸ hg))
theorem bx_ (hk:Keep (fun g=>g ≠ b') w w') (h:Blk w b t cs) (hn:b ≠ b'):Blk w' b t cs:=h.keep hk hn
end
section
variable {o:Oper} {a:Act} {w:World} {t u f:Nat} {v v0 v1 v2 c0 c1 c2 c3:Value} {b:Nat} {tys:Array TypeId}
theorem ym_ (ho:o.op=.move (.tmp t)) (h:a.tmps[t]? = some v):(execOp a.eval o).run Try.prog w=.ok (.value v) w:=by
  unfold execOp;simp only [ho];go_simp
theorem ya_ (ho:o.op=.assign (.tmp t)) (h:a.tmps[t]? = some v):(execOp a.eval o).run Try.prog w=.ok (.value v) w:=by
  unfold execOp;simp only [ho];go_simp
theorem ye20_ (ho:o.op=.extract (.tmp t) 0) (h:a.tmps[t]? = some (.tuple #[v0,v1])):(execOp a.eval o).run Try.prog w=.ok (.value v0) w:=by
  unfold execOp;simp only [ho];go_simp
theorem ye21_ (ho:o.op=.extract (.tmp t) 1) (h:a.tmps[t]? = some (.tuple #[v0,v1])):(execOp a.eval o).run Try.prog w=.ok (.value v1) w:=by
  unfold execOp;simp only [ho];go_simp
theorem ye30_ (ho:o.op=.extract (.tmp t) 0) (h:a.tmps[t]? = some (.tuple #[v0,v1,v2])):(execOp a.eval o).run Try.prog w=.ok (.value v0) w:=by
  unfold execOp;simp only [ho];go_simp
theorem ye31_ (ho:o.op=.extract (.tmp t) 1) (h:a.tmps[t]? = some (.tuple #[v0,v1,v2])):(execOp a.eval o).run Try.prog w=.ok (.value v1) w:=by
  unfold execOp;simp only [ho];go_simp
theorem ye32_ (ho:o.op=.extract (.tmp t) 2) (h:a.tmps[t]? = some (.tuple #[v0,v1,v2])):(execOp a.eval o).run Try.prog w=.ok (.value v2) w:=by
  unfold execOp;simp only [ho];go_simp
theorem yc1_ (he:Enters Try.prog f) (ho:o.op=.call { callee:=.value (.func f),args:=#[.tmp t],argTypes:=tys }) (h:a.tmps[t]? = some v):(execOp a.eval o).run Try.prog w=.ok (.enter f #[v]) w:=by
  unfold execOp;simp only [ho];go_simp;exact he _ _
theorem yc2_ (he:Enters Try.prog f) (ho:o.op=.call { callee:=.value (.func f),args:=#[.tmp t,.tmp u],argTypes:=tys }) (h:a.tmps[t]? = some v0) (h1:a.tmps[u]? = some v1):(execOp a.eval o).run Try.prog w=.ok (.enter f #[v0,v1]) w:=by
  unfold execOp;simp only [ho];go_simp;exact he _ _
def Ag_ (D:List Nat) (a a':Act):Prop:=∀ k,k ∉ D→a'.tmps[k]? = a.tmps[k]?
theorem Ag_.refl (a:Act):Ag_ [] a a:=fun _ _=>rfl
theorem Ag_.put {D:List Nat} {a a1 a':Act} {d:Nat} (h:Ag_ D a a1) (e:a'=a1.put (some d) v):Ag_ (d::D) a a':=fun k hk=>by
  have h1:d ≠ k:=fun he=>hk (he ▸ List.mem_cons_self);subst e;show (a1.tmps.setIfInBounds d v)[k]? = _;rw [Array.getElem?_setIfInBounds_ne h1];exact h k fun hm=>hk (List.mem_cons_of_mem _ hm)
theorem Ag_.of {D:List Nat} {a a':Act} {k:Nat} (E:Ag_ D a a') (h:a.tmps[k]? = some v) (hk:k ∉ D:=by decide):a'.tmps[k]? = some v:=(E k hk).trans h
end
structure FE_ (n:Nat) (D:List Nat) (a0 a:Act):Prop where
  r:FrS n a
  e:Ag_ D a0 a
theorem FE_.of {n k:Nat} {D:List Nat} {a0 a:Act} {v:Value} (F:FE_ n D a0 a) (h:a0.tmps[k]? = some v) (hk:k ∉ D:=by decide):a.tmps[k]? = some v:=F.e.of h hk
theorem pt_ {n d:Nat} {D:List Nat} {a0 a a':Act} {v:Value} (F:FE_ n D a0 a) (e:a'=a.put (some d) v) (hd:d < n:=by decide):a'.tmps[d]? = some v:=F.r.at_ e hd
theorem pu_ {n d:Nat} {D:List Nat} {a0 a a':Act} {v:Value} (F:FE_ n D a0 a) (e:a'=a.put (some d) v):FE_ n (d::D) a0 a':=⟨F.r.put e,F.e.put e⟩
theorem dt_ {P:Program} {ops:Array Oper} {Q:Exit→Act→World→Prop} {S:World→Prop} {i d:Nat} {oi:Oper} {v:Value} {fuel:Nat} {listed l':Array Bool} {a:Act} {w:World}
    (hi:ops[i]? = some oi) (hd:oi.dst=some d) (hs:Region.noSelect ops=true) (hw:Region.wanted oi (yielded ops a.tmps)=true) (hS:S w)
    (hy:∀ w,S w→(execOp a.eval oi).run P w=.ok (.value v) w)
    (h:∀ a',a'=a.put (some d) v→wpAnyH P .any ops (NoPanic Q) S fuel l' a' w)
    (hf:Region.free .any ops listed i=true:=by kernel_rfl) (hr:(Region.ready .any ops listed).contains i=true:=by kernel_rfl) (hl:listed.setIfInBounds i true=l':=by kernel_rfl):wpAnyH P .any ops (NoPanic Q) S (fuel + 1) listed a w :=
  dr_take hi hd hs hf hr hl hw hS hy h
theorem sv_ {P:Program} {ops:Array Oper} {Q:Exit→Act→World→Prop} {i d:Nat} {oi:Oper} {v:Value} {rest:List Nat} {a:Act} {w w':World} (hi:ops[i]? = some oi) (hy:(execOp a.eval oi).run P w=.ok (.value v) w') (h:∀ a',a'=a.put (some d) v→wpOps P ops Q rest a' w') (hd:oi.dst=some d:=by rfl) (hw:Region.wanted oi (yielded ops a.tmps)=true:=by exact wanted_free rfl):wpOps P ops Q (i::rest) a w:=st_val hi hd hw hy h
theorem js_ {P:Program} {x y:Code} {Q:Exit→Act→World→Prop} {a:Act} {w:World} (F:Act→World→Prop) (hx:x.wp P (Exit.then F Q) a w) (hy:∀ a w,F a w→y.wp P Q a w):(Code.seq x y).wp P Q a w :=
  wp_seq (Code.wp_mono (fun e a w h=>by cases e <;> first | exact hy _ _ h | exact h) hx)
theorem so_ {a a':Act} {d k:Nat} {v u:Value} (he:a'=a.put (some d) v) (hk:a.tmps[k]? = some u) (hne:d ≠ k:=by decide):a'.tmps[k]? = some u:=slot_on he hk hne
section
variable {n k l m o p q r s:Nat} {D:List Nat} {a0 a:Act} {u v w x y z t b:Value}
theorem FE_.o2 (F:FE_ n D a0 a) (h0:a0.tmps[k]? = some u) (h1:a0.tmps[l]? = some v) (d:k ∉ D∧l ∉ D:=by decide):a.tmps[k]? = some u∧a.tmps[l]? = some v:=⟨F.of h0 d.1,F.of h1 d.2⟩
theorem s2_ {c:Value} (e:a=a0.put (some n) c) (h0:a0.tmps[k]? = some u) (h1:a0.tmps[l]? = some v) (d:n ≠ k∧n ≠ l:=by decide):a.tmps[k]? = some u∧a.tmps[l]? = some v:=⟨so_ e h0 d.1,so_ e h1 d.2⟩
theorem FE_.o3 (F:FE_ n D a0 a) (h0:a0.tmps[k]? = some u) (h1:a0.tmps[l]? = some v) (h2:a0.tmps[m]? = some w) (d:k ∉ D∧l ∉ D∧m ∉ D:=by decide):a.tmps[k]? = some u∧a.tmps[l]? = some v∧a.tmps[m]? = some w:=⟨F.of h0 d.1,F.of h1 d.2.1,F.of h2 d.2.2⟩
theorem s3_ {c:Value} (e:a=a0.put (some n) c) (h0:a0.tmps[k]? = some u) (h1:a0.tmps[l]? = some v) (h2:a0.tmps[m]? = some w) (d:n ≠ k∧n ≠ l∧n ≠ m:=by decide):a.tmps[k]? = some u∧a.tmps[l]? = some v∧a.tmps[m]? = some w:=⟨so_ e h0 d.1,so_ e h1 d.2.1,so_ e h2 d.2.2⟩
theorem FE_.o4 (F:FE_ n D a0 a) (h0:a0.tmps[k]? = some u) (h1:a0.tmps[l]? = some v) (h2:a0.tmps[m]? = some w) (h3:a0.tmps[o]? = some x) (d:k ∉ D∧l ∉ D∧m ∉ D∧o ∉ D:=by decide):a.tmps[k]? = some u∧a.tmps[l]? = some v∧a.tmps[m]? = some w∧a.tmps[o]? = some x:=⟨F.of h0 d.1,F.of h1 d.2.1,F.of h2 d.2.2.1,F.of h3 d.2.2.2⟩
theorem s4_ {c:Value} (e:a=a0.put (some n) c) (h0:a0.tmps[k]? = some u) (h1:a0.tmps[l]? = some v) (h2:a0.tmps[m]? = some w) (h3:a0.tmps[o]? = some x) (d:n ≠ k∧n ≠ l∧n ≠ m∧n ≠ o:=by decide):a.tmps[k]? = some u∧a.tmps[l]? = some v∧a.tmps[m]? = some w∧a.tmps[o]? = some x:=⟨so_ e h0 d.1,so_ e h1 d.2.1,so_ e h2 d.2.2.1,so_ e h3 d.2.2.2⟩
theorem FE_.o6 (F:FE_ n D a0 a) (h0:a0.tmps[k]? = some u) (h1:a0.tmps[l]? = some v) (h2:a0.tmps[m]? = some w) (h3:a0.tmps[o]? = some x) (h4:a0.tmps[p]? = some y) (h5:a0.tmps[q]? = some z) (d:k ∉ D∧l ∉ D∧m ∉ D∧o ∉ D∧p ∉ D∧q ∉ D:=by decide):a.tmps[k]? = some u∧a.tmps[l]? = some v∧a.tmps[m]? = some w∧a.tmps[o]? = some x∧a.tmps[p]? = some y∧a.tmps[q]? = some z:=⟨F.of h0 d.1,F.of h1 d.2.1,F.of h2 d.2.2.1,F.of h3 d.2.2.2.1,F.of h4 d.2.2.2.2.1,F.of h5 d.2.2.2.2.2⟩
theorem s6_ {c:Value} (e:a=a0.put (some n) c) (h0:a0.tmps[k]? = some u) (h1:a0.tmps[l]? = some v) (h2:a0.tmps[m]? = some w) (h3:a0.tmps[o]? = some x) (h4:a0.tmps[p]? = some y) (h5:a0.tmps[q]? = some z) (d:n ≠ k∧n ≠ l∧n ≠ m∧n ≠ o∧n ≠ p∧n ≠ q:=by decide):a.tmps[k]? = some u∧a.tmps[l]? = some v∧a.tmps[m]? = some w∧a.tmps[o]? = some x∧a.tmps[p]? = some y∧a.tmps[q]? = some z:=⟨so_ e h0 d.1,so_ e h1 d.2.1,so_ e h2 d.2.2.1,so_ e h3 d.2.2.2.1,so_ e h4 d.2.2.2.2.1,so_ e h5 d.2.2.2.2.2⟩
theorem FE_.o8 (F:FE_ n D a0 a) (h0:a0.tmps[k]? = some u) (h1:a0.tmps[l]? = some v) (h2:a0.tmps[m]? = some w) (h3:a0.tmps[o]? = some x) (h4:a0.tmps[p]? = some y) (h5:a0.tmps[q]? = some z) (h6:a0.tmps[r]? = some t) (h7:a0.tmps[s]? = some b) (d:k ∉ D∧l ∉ D∧m ∉ D∧o ∉ D∧p ∉ D∧q ∉ D∧r ∉ D∧s ∉ D:=by decide):a.tmps[k]? = some u∧a.tmps[l]? = some v∧a.tmps[m]? = some w∧a.tmps[o]? = some x∧a.tmps[p]? = some y∧a.tmps[q]? = some z∧a.tmps[r]? = some t∧a.tmps[s]? = some b:=⟨F.of h0 d.1,F.of h1 d.2.1,F.of h2 d.2.2.1,F.of h3 d.2.2.2.1,F.of h4 d.2.2.2.2.1,F.of h5 d.2.2.2.2.2.1,F.of h6 d.2.2.2.2.2.2.1,F.of h7 d.2.2.2.2.2.2.2⟩
theorem s8_ {c:Value} (e:a=a0.put (some n) c) (h0:a0.tmps[k]? = some u) (h1:a0.tmps[l]? = some v) (h2:a0.tmps[m]? = some w) (h3:a0.tmps[o]? = some x) (h4:a0.tmps[p]? = some y) (h5:a0.tmps[q]? = some z) (h6:a0.tmps[r]? = some t) (h7:a0.tmps[s]? = some b) (d:n ≠ k∧n ≠ l∧n ≠ m∧n ≠ o∧n ≠ p∧n ≠ q∧n ≠ r∧n ≠ s:=by decide):a.tmps[k]? = some u∧a.tmps[l]? = some v∧a.tmps[m]? = some w∧a.tmps[o]? = some x∧a.tmps[p]? = some y∧a.tmps[q]? = some z∧a.tmps[r]? = some t∧a.tmps[s]? = some b:=⟨so_ e h0 d.1,so_ e h1 d.2.1,so_ e h2 d.2.2.1,so_ e h3 d.2.2.2.1,so_ e h4 d.2.2.2.2.1,so_ e h5 d.2.2.2.2.2.1,so_ e h6 d.2.2.2.2.2.2.1,so_ e h7 d.2.2.2.2.2.2.2⟩
end
theorem dd_:(∀ (p:Prop) [Decidable p],(decide p=true)=p) ∧ (∀ (p:Prop) [Decidable p],(decide p=false) ↔ ¬p) ∧ (∀ {α:Type} [BEq α] [LawfulBEq α] (a b:α),(bne a b=true) ↔ a ≠ b) ∧ (∀ {α:Type} [BEq α] [LawfulBEq α] (a b:α),(bne a b=false) ↔ a=b) ∧ (∀ {α:Type} [BEq α] [LawfulBEq α] (a b:α),((a == b)=true) ↔ a=b) ∧ (∀ {α:Type} [BEq α] [LawfulBEq α] (a b:α),((a == b)=false) ↔ a ≠ b) ∧ (∀ {α:Type} (a b:α),(a ≠ b)=¬(a=b)) ∧ (∀ b:Bool,((!b)=true)=(b=false)) ∧ (∀ b:Bool,((!b)=false)=(b=true)) ∧ (∀ a b:Bool,(!a)=b ↔ a=!b) ∧ ((!true)=false) ∧ ((!false)=true):=
 ⟨fun _ _=>decide_eq_true_eq,fun _ _=>decide_eq_false_iff_not,fun _ _=>bne_iff_ne,fun _ _=>bne_eq_false_iff_eq,fun _ _=>beq_iff_eq,fun _ _=>beq_eq_false_iff_ne,fun _ _=>rfl,fun b=>by cases b <;> simp,fun b=>by cases b <;> simp,fun a b=>by cases a <;> cases b <;> simp,rfl,rfl⟩
theorem fe_ {n:Nat} {a:Act} (R:FrS n a):FE_ n [] a a:=⟨R,Ag_.refl _⟩
theorem sw_ {P:Program} {ops:Array Oper} {Q:Exit→Act→World→Prop} {i d n:Nat} {D:List Nat} {oi:Oper} {v:Value} {rest:List Nat} {a0 a:Act} {w w':World} (hi:ops[i]? = some oi) (hy:(execOp a.eval oi).run P w=.ok (.value v) w') (F:FE_ n D a0 a) (h:∀ a',FE_ n (d::D) a0 a'→a'.tmps[d]? = some v→wpOps P ops Q rest a' w') (hd:oi.dst=some d:=by rfl) (hw:Region.wanted oi (yielded ops a.tmps)=true:=by exact wanted_free rfl) (hn:d < n:=by decide):wpOps P ops Q (i::rest) a w:=sv_ hi hy (fun a' e=>h a' (pu_ F e) (pt_ F e hn)) hd hw
theorem swe_ {P:Program} {ops:Array Oper} {Q:Exit→Act→World→Prop} {i d n:Nat} {D:List Nat} {oi:Oper} {v:Value} {rest:List Nat} {a0 a:Act} {w w':World} (hi:ops[i]? = some oi) (hy:(execOp a.eval oi).run P w=.ok (.value v) w') (F:FE_ n D a0 a) (h:∀ a',a'=a.put (some d) v→FE_ n (d::D) a0 a'→a'.tmps[d]? = some v→wpOps P ops Q rest a' w') (hd:oi.dst=some d:=by rfl) (hw:Region.wanted oi (yielded ops a.tmps)=true:=by exact wanted_free rfl) (hn:d < n:=by decide):wpOps P ops Q (i::rest) a w:=sv_ hi hy (fun a' e=>h a' e (pu_ F e) (pt_ F e hn)) hd hw
abbrev Yv (a:Act) (o:Oper) (w:World) (v:Value):Prop:=(execOp a.eval o).run Try.prog w=.ok (.value v) w
theorem infoT':∃ i z,Try.prog.info? 24=some i∧i.zero=some z∧i.size=4∧i.bytes=56∧z.cells.size=4:=by
  have h1:((Try.prog.info? 24).map fun i=>(i.size,i.bytes,(i.zero.map fun z=>z.cells.size)))=some (4,56,some 4):=by kernel_rfl
  obtain ⟨i,hi,he⟩:=Option.map_eq_some_iff.1 h1;obtain ⟨e1,e2⟩:=Prod.mk.inj he;obtain ⟨e2,e3⟩:=Prod.mk.inj e2;obtain ⟨z,hz,hz2⟩:=Option.map_eq_some_iff.1 e3;exact ⟨i,z,hi,hz,e1,e2,hz2⟩
theorem load_tm {w:World} {b:Nat} {c0 c1 c2 c3:Value} (hb:Blk w b 24 #[c0,c1,c2,c3]):(loadVar 24 ⟨b,0,none⟩).run Try.prog w=.ok (.agg #[c0,c1,c2,c3]) w:=by
  obtain ⟨i,z,h1,_,h3,_⟩:=infoT';exact run_loadVar_row w b 24 24 #[c0,c1,c2,c3] (0,0) _ hb Try.underlying24 rfl (by rw [h1];simp [h3])
theorem yl4_ {o:Oper} {a:Act} {w:World} {t b:Nat} {c0 c1 c2 c3:Value} (ho:o.op=.load 24 (.tmp t)) (h:a.tmps[t]? = some (.pointer (some ⟨b,0,none⟩))) (hb:Blk w b 24 #[c0,c1,c2,c3]):(execOp a.eval o).run Try.prog w=.ok (.value (.agg #[c0,c1,c2,c3])) w:=by
  have z0:w.cell? ⟨b,0,none⟩=some c0:=hb.cell 0;have z1:w.cell? ⟨b,1,none⟩=some c1:=hb.cell 1;have z2:w.cell? ⟨b,2,none⟩=some c2:=hb.cell 2;have z3:w.cell? ⟨b,3,none⟩=some c3:=hb.cell 3;unfold execOp;simp only [ho];go_simp
section
variable {o:Oper} {a:Act} {w:World} {t b:Nat} {c0 c1 c2 c3:Value}
theorem yf0_ (ho:o.op=.fieldAddr 24 (.tmp t) 0) (h:a.tmps[t]? = some (.pointer (some ⟨b,0,none⟩))):(execOp a.eval o).run Try.prog w=.ok (.value (.pointer (some ⟨b,0,none⟩))) w:=by unfold execOp;simp only [ho];go_simp
theorem yf1_ (ho:o.op=.fieldAddr 24 (.tmp t) 1) (h:a.tmps[t]? = some (.pointer (some ⟨b,0,none⟩))):(execOp a.eval o).run Try.prog w=.ok (.value (.pointer (some ⟨b,1,none⟩))) w:=by unfold execOp;simp only [ho];go_simp
theorem yf2_ (ho:o.op=.fieldAddr 24 (.tmp t) 2) (h:a.tmps[t]? = some (.pointer (some ⟨b,0,none⟩))):(execOp a.eval o).run Try.prog w=.ok (.value (.pointer (some ⟨b,2,none⟩))) w:=by unfold execOp;simp only [ho];go_simp
theorem yf3_ (ho:o.op=.fieldAddr 24 (.tmp t) 3) (h:a.tmps[t]? = some (.pointer (some ⟨b,0,none⟩))):(execOp a.eval o).run Try.prog w=.ok (.value (.pointer (some ⟨b,3,none⟩))) w:=by unfold execOp;simp only [ho];go_simp
theorem yk0_ (ho:o.op=.load 3 (.tmp t)) (h:a.tmps[t]? = some (.pointer (some ⟨b,0,none⟩))) (hb:Blk w b 24 #[c0,c1,c2,c3]):(execOp a.eval o).run Try.prog w=.ok (.value c0) w:=by
  have z0:w.cell? ⟨b,0,none⟩=some c0:=hb.cell 0;unfold execOp;simp only [ho];go_simp
theorem yk1_ (ho:o.op=.load 9 (.tmp t)) (h:a.tmps[t]? = some (.pointer (some ⟨b,1,none⟩))) (hb:Blk w b 24 #[c0,c1,c2,c3]):(execOp a.eval o).run Try.prog w=.ok (.value c1) w:=by
  have z0:w.cell? ⟨b,1,none⟩=some c1:=hb.cell 1;unfold execOp;simp only [ho];go_simp
theorem yk2_ (ho:o.op=.load 2 (.tmp t)) (h:a.tmps[t]? = some (.pointer (some ⟨b,2,none⟩))) (hb:Blk w b 24 #[c0,c1,c2,c3]):(execOp a.eval o).run Try.prog w=.ok (.value c2) w:=by
  have z0:w.cell? ⟨b,2,none⟩=some c2:=hb.cell 2;unfold execOp;simp only [ho];go_simp
theorem yk3_ (ho:o.op=.load 22 (.tmp t)) (h:a.tmps[t]? = some (.pointer (some ⟨b,3,none⟩))) (hb:Blk w b 24 #[c0,c1,c2,c3]):(execOp a.eval o).run Try.prog w=.ok (.value c3) w:=by
  have z0:w.cell? ⟨b,3,none⟩=some c3:=hb.cell 3;unfold execOp;simp only [ho];go_simp
theorem ys4_ {u n c:Nat} {x y:Int} {s:ByteArray} {p:Option Addr} (ho:o.op=.store 24 (.tmp t) (.tmp u)) (h:a.tmps[t]? = some (.pointer (some ⟨b,0,none⟩))) (hu:a.tmps[u]? = some (.agg #[.int .i64 x,.string s,.int .i64 y,.slice p n c])) (hb:Blk w b 24 #[c0,c1,c2,c3]) :
    ∃ w',(execOp a.eval o).run Try.prog w=.ok .skip w'∧Keep (fun g=>g ≠ b) w w'∧Blk w' b 24 #[.int .i64 x,.string s,.int .i64 y,.slice p n c]:=by
  have z0:w.cell? ⟨b,0,none⟩=some c0:=hb.cell 0;have z1:w.cell? ⟨b,1,none⟩=some c1:=hb.cell 1;have z2:w.cell? ⟨b,2,none⟩=some c2:=hb.cell 2;have z3:w.cell? ⟨b,3,none⟩=some c3:=hb.cell 3;have f0:=hb.frozen 0;have f1:=hb.frozen 1;have f2:=hb.frozen 2;have f3:=hb.frozen 3;refine ⟨(((w.setCell ⟨b,0,none⟩ (.int .i64 x)).setCell ⟨b,1,none⟩ (.string s)).setCell ⟨b,2,none⟩ (.int .i64 y)).setCell ⟨b,3,none⟩ (.slice p n c),?_,((((Keep.refl _ _).setCell (fun h=>h rfl) _).setCell (fun h=>h rfl) _).setCell (fun h=>h rfl) _).setCell (fun h=>h rfl) _,(((hb.set_ 0 _).set_ 1 _).set_ 2 _).set_ 3 _⟩;unfold execOp;simp only [ho];go_simp
end
section
variable {fn:Func} {R:Ending→World→Prop} {a:Act} {w:World} {t u n b:Nat} {c0 c1 c2 c3 v:Value}
theorem ret_cell (hr:fn.results=#[.cell t 24]) (hF:FrS n a) (h:a.tmps[t]? = some (.pointer (some ⟨b,0,none⟩))) (hb:Blk w b 24 #[c0,c1,c2,c3]) (hR:R (.returned (.agg #[c0,c1,c2,c3])) w):bodyPost Try.prog fn R .ret a w:=by
  obtain ⟨i,z,h1,_,h3,_⟩:=infoT';refine ⟨hF.defers,_,results_cell_row hr a.tmps w b 24 #[c0,c1,c2,c3] (0,0) _ (by rw [Array.getD_eq_getD_getElem?,h];rfl) hb Try.underlying24 rfl (by rw [h1];simp [h3]),hR⟩
theorem ret_cell_tmp (hr:fn.results=#[.cell t 24,.tmp u]) (hF:FrS n a) (h:a.tmps[t]? = some (.pointer (some ⟨b,0,none⟩))) (hu:a.tmps[u]? = some v) (hb:Blk w b 24 #[c0,c1,c2,c3]) (hR:R (.returned (.tuple #[.agg #[c0,c1,c2,c3],v])) w):bodyPost Try.prog fn R .ret a w:=by
  have e1:a.tmps.getD t undef=.pointer (some ⟨b,0,none⟩):=by rw [Array.getD_eq_getD_getElem?,h];rfl
  have e2:a.tmps.getD u undef=v:=by rw [Array.getD_eq_getD_getElem?,hu];rfl
  refine ⟨hF.defers,.tuple #[.agg #[c0,c1,c2,c3],v],?_,hR⟩;have hl:=load_tm hb;have e1':a.tmps[t]?.getD undef=.pointer (some ⟨b,0,none⟩):=by rw [h];rfl
  have e2':a.tmps[u]?.getD undef=v:=by rw [hu];rfl
  simp [results,hr,e1',e2',asAddr,hl]
end
structure TRow (B:Nat) (w:World) (v:Value) (ps:List TP):Prop where
  row:w.ownsRow B 24 4 v ps.length (ps.flatMap TP.cells)
  fr:∀ p ∈ ps,Fr 0 (fun k=>v.ownBlock=some k) w B w.heap.size p.1 p.2.1 p.2.2
  le:B ≤ w.heap.size
section
variable {B:Nat} {w w1 w2:World} {v:Value} {ps:List TP} {p:TP} {t:Tm} {a:Option Addr} {c:Nat}
theorem TRow.nil (h:B ≤ w.heap.size):TRow B w (.slice none 0 0) []:=⟨⟨by simp,.inl ⟨rfl,rfl⟩⟩,fun p hp=>by simp at hp,h⟩
theorem TRow.lt (h:TRow B w v ps) {k:Nat} (hk:v.ownBlock=some k):B ≤ k∧k < w.heap.size:=by
  obtain ⟨h1,cs,hb⟩:=row_type h.row hk;exact ⟨h1,hb.lt⟩
theorem TRow.on (h:TRow B w v ps) (k:Keep (fun g=>g < w.heap.size) w w1):TRow B w1 v ps :=
  ⟨row_on h.row k fun g hg=>(h.lt hg).2,fun p hp=>((h.fr p hp).keep k.all (fun _ h=>absurd h (Nat.not_lt_zero _))).up k.size (Nat.le_refl _),Nat.le_trans h.le k.size⟩
theorem TRow.onB (h:TRow B w v ps) (k:Keep (fun g=>B ≤ g) w w1):TRow B w1 v ps :=
  ⟨row_on h.row k fun g hg=>(h.lt hg).1,fun p hp=>((h.fr p hp).keepR k (fun j hj=>by rcases hj with hj | hj;omega;exact hj.1)).up k.size (Nat.le_refl _),Nat.le_trans h.le k.size⟩
theorem Fr.fresh {lo hi:Nat} {Q:Nat→Prop} (h:Fr 0 (fun _=>False) w lo hi t a c) (hQ:∀ k,lo ≤ k→¬ Q k):Fr 0 Q w lo hi t a c :=
  h.growR (Nat.le_refl _) fun k hk hq=>absurd hq (hQ k hk)
theorem Fr.free {lo hi:Nat} {Q:Nat→Prop} (h:Fr 0 Q w lo hi t a c):Fr 0 (fun _=>False) w lo hi t a c :=
  h.growR (Nat.le_refl _) fun k hk hq=>hq.elim
theorem TRow.push {lo b2 c2:Nat} {ty:TypeId} (h:TRow B w v ps) (k1:Keep (fun g=>g < w.heap.size) w w1) (hlo:w.heap.size ≤ lo) (hf:Fr 0 (fun _=>False) w1 lo w1.heap.size p.1 p.2.1 p.2.2) (k2:Keep (fun g=>g < w1.heap.size) w1 w2) (hb:Blk w2 b2 24 p.cells.toArray) (hn:ps.length < 8192) :
    ∃ v' w3,(Builtin.append_ #[22,22] ty #[v,.slice (some ⟨b2,0,none⟩) 1 c2]).run Try.prog w2=.ok v' w3∧TRow B w3 v' (ps ++ [p])∧(∃ a' c',v'=.slice a' (ps ++ [p]).length c')∧Keep (fun g=>g < B) w2 w3:=by
  obtain ⟨i,z,h1,h2,h3,h4,h5⟩:=infoT';have k12:Keep (fun g=>g < w.heap.size) w w2:=keep_onto k1 k2;have h22:=h.on k12;have hrow:=h22.row;have hone:∀ u ∈ p.cells,u.oneCell'=true:=by intro u hu;simp [TP.cells,Tm.cells] at hu;rcases hu with rfl | rfl | rfl | rfl <;> rfl
  obtain ⟨v',w3,ha,hr,hg,_⟩:=run_append_own (P:=Try.prog) w2 B 22 ty 24 i z 4 56 Try.underlying22 h1 h2 h3 h4 h5 (by decide) v ps.length (ps.flatMap TP.cells) hrow ⟨b2,0,none⟩ 1 c2 p.cells rfl (news_at hb) hone (by unfold maxLen;omega) (by omega) h22.le;have hat:v'.ownBlock=v.ownBlock∨v'.ownBlock=some w2.heap.size:=by
    rcases hrow.2 with ⟨rfl,h0⟩ | ⟨g,cap,cur,rfl,hbg,hgg,hnc,hcm,hcs,htk⟩
    · have:=run_append_nil (P:=Try.prog) (w:=w2) 22 ty 24 i z Try.underlying22 h1 h2 ⟨b2,0,none⟩ 1 c2 p.cells (by rw [h3];rfl) (news_at hb) (by decide) (by decide) (by rw [h4];decide);rw [ha] at this;injection this with e1 _
      subst e1;exact .inr rfl
    · by_cases hroom:ps.length + 1 ≤ cap
      · have:=run_append_room (P:=Try.prog) w2 22 ty 24 i Try.underlying22 h1 g ps.length cap cur hgg ⟨b2,0,none⟩ 1 c2 p.cells (by rw [h3];rfl) (news_at hb) hone hroom (by rw [h3,hcs];simp [TP.cells,Tm.cells];omega);rw [ha] at this;injection this with e1 _
        subst e1;exact .inl rfl
      · have holds:=hrow.cells (g:=g) rfl;have:=run_append_grow (P:=Try.prog) (w:=w2) 22 ty 24 i z Try.underlying22 h1 h2 ⟨g,0,none⟩ ps.length cap (ps.flatMap TP.cells) (by rw [h3,flat_len]) holds ⟨b2,0,none⟩ 1 c2 p.cells (by rw [h3];rfl) (news_at hb) (by omega) (by omega) (by rw [h4];exact growslice_fits (by omega) (by omega));rw [ha] at this;injection this with e1 _
        subst e1;exact .inr rfl
  have kg:Keep (fun g=>v.ownBlock ≠ some g) w2 w3:=Keep.ofGrown hg fun g e hx=>hx e;have hz:=hg.size;refine ⟨v',w3,ha,⟨?_,?_,Nat.le_trans h22.le hz⟩,?_,Keep.ofGrown hg fun g hg2=>Nat.not_lt.2 (h.lt hg2).1⟩
  · rw [List.length_append,List.flatMap_append];simpa using hr
  · intro q hq;rcases List.mem_append.1 hq with hq | hq
    · have f1:=(h22.fr q hq).keep kg (fun _ h=>absurd h (Nat.not_lt_zero _));refine (f1.growR (Q':=fun k=>v'.ownBlock=some k) (Nat.le_refl _) fun k hk hv=>?_).up hz (Nat.le_refl _);rcases hat with e | e
      · left;rw [← e];exact hv
      · right;rw [e] at hv;cases hv;exact Nat.le_refl _
    · rw [List.mem_singleton.1 hq];have f1:=(hf.keep (k2.all) (fun _ h=>absurd h (Nat.not_lt_zero _))).up k2.size (Nat.le_refl _);have f2:=f1.fresh (Q:=fun k=>v.ownBlock=some k) fun k hk hv=>by have:=(h.lt hv).2;omega
      have f3:=f2.keep kg (fun _ h=>absurd h (Nat.not_lt_zero _));refine (f3.growR (Q':=fun k=>v'.ownBlock=some k) (Nat.le_refl _) fun k hk hv=>?_).up hz (by have:=h.le;omega);rcases hat with e | e
      · left;rw [← e];exact hv
      · right;rw [e] at hv;cases hv;exact Nat.le_refl _
  · have hl:ps.length + 1=(ps ++ [p]).length:=by simp
    rw [← hl];rcases hr.2 with ⟨_,h0⟩ | ⟨g,cap,cur,e,_⟩
    · exact absurd h0 (by omega)
    · exact ⟨_,_,e⟩
theorem TRow.done {nm:List UInt8} {k i:Int} (h:TRow B w v ps) (hk:(Lit.int .i64 k).wf=true) (hi:(Lit.int .i64 i).wf=true) (hn:nm.length ≤ maxLen) (hl:ps.length ≤ maxLen):∃ a c,v=.slice a ps.length c∧Fr 0 (fun _=>False) w B w.heap.size (.node k nm i (ps.map (·.1))) a c:=by
  rcases h.row.2 with ⟨rfl,h0⟩ | ⟨g,cap,cur,rfl,hbg,hgg,hnc,hcm,hcs,htk⟩
  · have hz:ps=[]:=List.eq_nil_of_length_eq_zero h0;subst hz;exact ⟨none,0,rfl,.old (tm_leaf hk hi hn) h.le⟩
  · refine ⟨_,cap,rfl,?_⟩;have hlt:g < w.heap.size:=(h.lt rfl).2;have hcur:cur=(ps.flatMap TP.cells ++ cur.toList.drop (ps.length * 4)).toArray:=by
      rw [← htk,List.take_append_drop,Array.toArray_toList]
    refine .node hk hi hn hl hbg hlt (fun h=>h) (rest:=cur.toList.drop (ps.length * 4)) ?_ ⟨hnc,hcm,?_⟩ fun j q hj=>(h.fr q (List.mem_of_getElem? hj)).free
    · rw [← hcur];exact hgg
    · rw [← htk,List.take_append_drop,Array.length_toList,hcs]
end
end Go.Proofs.Ytjinmnekfhekpaa

/-
  Rows that grow, and slices of bindings, for walks with letter frames. No condition.
-/
import Derived.Test.YtjinmnekfhekpaaQSx2
namespace Go.Proofs.Ytjinmnekfhekpaa
open Go.RowKit Go.Maps
set_option linter.unusedVariables false
set_option linter.unusedSimpArgs false
section
variable {w:World} {t u x:Tm} {a b:Option Addr} {c d:Nat}
theorem row_kept {w':World} {v:Value} {base sz n:Nat} {ty:TypeId} {xs:List Value} (h:w.ownsRow base ty sz v n xs) (hk:Keep (fun g=>g < w.heap.size) w w'):w'.ownsRow base ty sz v n xs:=row_on h hk fun g hg=>(h.lt g hg).2
theorem bsl_addr {B:Nat} {bs:List BP} (h:BSl B w a bs) {j:Nat} (hj:j < bs.length):∃ b off,a=some ⟨b,off,none⟩∧b < B:=by
  obtain ⟨⟨b,off,ha,hb,_⟩,_⟩:=h j _ (List.getElem?_eq_getElem hj);exact ⟨b,off,ha,hb⟩
theorem bsl_at {B b off:Nat} {bs:List BP} (h:BSl B w a bs) (ha:a=some ⟨b,off,none⟩) {j:Nat} {q:BP} (hj:bs[j]? = some q):(w.cell? ⟨b,off + j * 5,none⟩=some (.int .i64 q.1)∧w.cell? ⟨b,off + j * 5 + 1,none⟩=some (.int .i64 q.2.1.k)∧w.cell? ⟨b,off + j * 5 + 2,none⟩=some (.string (str q.2.1.nm))∧w.cell? ⟨b,off + j * 5 + 3,none⟩=some (.int .i64 q.2.1.i)∧w.cell? ⟨b,off + j * 5 + 4,none⟩=some (.slice q.2.2.1 q.2.1.args.length q.2.2.2))∧(ik q.1).wf=true∧TmAt B w q.2.1 q.2.2.1 q.2.2.2:=by
  obtain ⟨⟨b',off',ha',hb,h0,h1,h2,h3,h4⟩,hw,ht⟩:=h j q hj;rw [ha] at ha';cases ha';exact ⟨⟨h0,h1,h2,h3,h4⟩,hw,ht⟩
theorem bsl_on {w':World} {bs:List BP} (h:BSl w.heap.size w a bs) (k:Keep (fun g=>g < w.heap.size) w w'):BSl w'.heap.size w' a bs:=fun j p hp=>by
  obtain ⟨⟨b,off,ha,hb,h0,h1,h2,h3,h4⟩,hw,ht⟩:=h j p hp;exact ⟨⟨b,off,ha,Nat.lt_of_lt_of_le hb k.size,cell_on h0 k,cell_on h1 k,cell_on h2 k,cell_on h3 k,cell_on h4 k⟩,hw,ht.on k⟩
theorem bsl_row {base:Nat} {v:Value} {ms:List BP} (h:w.ownsRow base 29 5 v ms.length (ms.flatMap bcells)) (hq:∀ q ∈ ms,(ik q.1).wf=true∧TmAt w.heap.size w q.2.1 q.2.2.1 q.2.2.2):∃ a c,v=.slice a ms.length c∧BSl w.heap.size w a ms∧∀ g off,a=some ⟨g,off,none⟩→g < w.heap.size:=by
  rcases h.2 with ⟨rfl,h0⟩ | ⟨g,cap,cur,rfl,hb,hg,_⟩
  · have hz:ms=[]:=List.eq_nil_of_length_eq_zero h0;subst hz;exact ⟨none,0,rfl,fun j q hj=>by simp at hj,fun g off h=>by cases h⟩
  · have hlt:g < w.heap.size:=Blk.lt (cs:=cur) (t:=29) hg;refine ⟨_,cap,rfl,fun j q hj=>?_,fun g' off h=>by cases h;exact hlt⟩;have hj2:j < ms.length:=(List.getElem?_eq_some_iff.1 hj).1;obtain ⟨g',cap',cs,h1,_,_,_,hc⟩:=row_some h (by omega);cases h1;obtain ⟨hw,ht⟩:=hq q (List.mem_of_getElem? hj);have hcc:∀ f v,(bcells q)[f]? = some v→w.cell? ⟨g,j * 5 + f,none⟩=some v:=fun f v hv=>hc _ _ (by
      have hf5:f < 5:=by have:=(List.getElem?_eq_some_iff.1 hv).1;rwa [bcells_len] at this
      rw [flatM_get bcells_len ms j f hf5,hj];exact hv)
    exact ⟨⟨g,0,rfl,hlt,by rw [Nat.zero_add];exact hcc 0 _ rfl,by rw [Nat.zero_add];exact hcc 1 _ rfl,by rw [Nat.zero_add];exact hcc 2 _ rfl,by rw [Nat.zero_add];exact hcc 3 _ rfl,by rw [Nat.zero_add];exact hcc 4 _ rfl⟩,hw,ht⟩
theorem info_bd:∃ i z,Try.prog.info? 29=some i∧i.zero=some z∧i.size=5∧i.bytes=64∧z.cells.size=5:=by
  have h1:((Try.prog.info? 29).map fun i=>(i.size,i.bytes,(i.zero.map fun z=>z.cells.size)))=some (5,64,some 5):=by kernel_rfl
  obtain ⟨i,hi,he⟩:=Option.map_eq_some_iff.1 h1;obtain ⟨e1,e2⟩:=Prod.mk.inj he;obtain ⟨e2,e3⟩:=Prod.mk.inj e2;obtain ⟨z,hz,hz2⟩:=Option.map_eq_some_iff.1 e3;exact ⟨i,z,hi,hz,e1,e2,hz2⟩
theorem info_long:∃ i z,Try.prog.info? 2=some i∧i.zero=some z∧i.size=1∧i.bytes=8∧z.cells.size=1:=by
  have h1:((Try.prog.info? 2).map fun i=>(i.size,i.bytes,(i.zero.map fun z=>z.cells.size)))=some (1,8,some 1):=by kernel_rfl
  obtain ⟨i,hi,he⟩:=Option.map_eq_some_iff.1 h1;obtain ⟨e1,e2⟩:=Prod.mk.inj he;obtain ⟨e2,e3⟩:=Prod.mk.inj e2;obtain ⟨z,hz,hz2⟩:=Option.map_eq_some_iff.1 e3;exact ⟨i,z,hi,hz,e1,e2,hz2⟩
theorem append_bd {base:Nat} {v:Value} {ms:List BP} {q:BP} {ty:TypeId} {b2 c2:Nat} (hrow:w.ownsRow base 29 5 v ms.length (ms.flatMap bcells)) (hb:Blk w b2 29 (bcells q).toArray) (hn:(ms.length + 1) * 64 ≤ 140737488355328) (hbase:base ≤ w.heap.size) :
    ∃ v' w',(Builtin.append_ #[25,25] ty #[v,.slice (some ⟨b2,0,none⟩) 1 c2]).run Try.prog w=.ok v' w'∧w'.ownsRow base 29 5 v' (ms ++ [q]).length ((ms ++ [q]).flatMap bcells)∧Keep (fun g=>g < base) w w':=by
  obtain ⟨i,z,h1,h2,h3,h4,h5⟩:=info_bd
  obtain ⟨v',w',ha,hr,hg,_⟩:=run_append_own (P:=Try.prog) w base 25 ty 29 i z 5 64 Try.underlying25 h1 h2 h3 h4 h5 (by decide) v ms.length (ms.flatMap bcells) hrow ⟨b2,0,none⟩ 1 c2 (bcells q) rfl
    (fun j u hu=>by
      have e:(⟨b2,0,none⟩:Addr).add j=⟨b2,j,none⟩:=by unfold Addr.add;split <;> simp_all
      rw [e,hb.cell,List.getElem?_toArray];exact hu) (bcells_one q) (by unfold maxLen;omega) hn hbase
  refine ⟨v',w',ha,?_,Keep.ofGrown hg fun g hg2=>Nat.not_lt.2 (hrow.lt g hg2).1⟩;rw [List.length_append,List.flatMap_append];simpa using hr
theorem row_made0 {base b2:Nat} (hb:Blk w b2 29 #[]) (h:base ≤ b2):w.ownsRow base 29 5 (.slice (some ⟨b2,0,none⟩) 0 0) ([]:List BP).length (([]:List BP).flatMap bcells) :=
  ⟨by simp,.inr ⟨b2,0,#[],rfl,h,hb,by simp,by unfold maxLen;omega,rfl,by simp⟩⟩
end
end Go.Proofs.Ytjinmnekfhekpaa

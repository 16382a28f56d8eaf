/-
  Rows of numbers that grow; a term made out of a slice of terms; one binding as a slice. No condition.
-/
import Derived.Test.YtjinmnekfhekpaaQSx3
import Derived.Test.YtjinmnekfhekpaaQTp2
namespace Go.Proofs.Ytjinmnekfhekpaa
open Go.RowKit Go.Maps
set_option linter.unusedVariables false
set_option linter.unusedSimpArgs false
section
variable {w:World} {t u x:Tm} {a b:Option Addr} {c d:Nat}
theorem append_long {base:Nat} {v:Value} {l:List Int} {z:Int} {ty:TypeId} {b2 c2:Nat} (hrow:w.ownsRow base 2 1 v l.length (l.map (Value.int .i64))) (hb:Blk w b2 2 #[.int .i64 z]) (hn:(l.length + 1) * 8 ≤ 140737488355328) (hbase:base ≤ w.heap.size) :
    ∃ v' w',(Builtin.append_ #[56,56] ty #[v,.slice (some ⟨b2,0,none⟩) 1 c2]).run Try.prog w=.ok v' w'∧w'.ownsRow base 2 1 v' (l ++ [z]).length ((l ++ [z]).map (Value.int .i64))∧Keep (fun g=>g < base) w w'∧Keep (fun g=>v.ownBlock ≠ some g) w w'∧(v'.ownBlock=v.ownBlock∨v'.ownBlock=some w.heap.size):=by
  obtain ⟨i,y,h1,h2,h3,h4,h5⟩:=info_long;have hnw:∀ j u,([.int .i64 z]:List Value)[j]? = some u→w.cell? ((⟨b2,0,none⟩:Addr).add j)=some u:=fun j u hu=>by
    have e:(⟨b2,0,none⟩:Addr).add j=⟨b2,j,none⟩:=by unfold Addr.add;split <;> simp_all
    rw [e,hb.cell,List.getElem?_toArray];exact hu
  have hone:∀ u ∈ ([.int .i64 z]:List Value),u.oneCell'=true:=by intro v hv;simp at hv;subst hv;rfl
  obtain ⟨v',w',ha,hr,hg,_⟩:=run_append_own (P:=Try.prog) w base 56 ty 2 i y 1 8 Try.underlying56 h1 h2 h3 h4 h5 (by decide) v l.length (l.map (Value.int .i64)) hrow ⟨b2,0,none⟩ 1 c2 [.int .i64 z] rfl hnw hone (by unfold maxLen;omega) hn hbase;refine ⟨v',w',ha,?_,Keep.ofGrown hg fun g hg2=>Nat.not_lt.2 (hrow.lt g hg2).1,Keep.ofGrown hg fun g e hx=>hx e,?_⟩
  · rw [List.length_append,List.map_append];simpa using hr
  · rcases hrow.2 with ⟨rfl,h0⟩ | ⟨g,cap,cur,rfl,hbg,hgg,hnc,hcm,hcs,htk⟩
    · have:=run_append_nil (P:=Try.prog) (w:=w) 56 ty 2 i y Try.underlying56 h1 h2 ⟨b2,0,none⟩ 1 c2 [.int .i64 z] (by rw [h3];rfl) hnw (by decide) (by decide) (by rw [h4];decide);rw [ha] at this;injection this with e1 _
      subst e1;exact .inr rfl
    · by_cases hroom:l.length + 1 ≤ cap
      · have:=run_append_room (P:=Try.prog) w 56 ty 2 i Try.underlying56 h1 g l.length cap cur hgg ⟨b2,0,none⟩ 1 c2 [.int .i64 z] (by rw [h3];rfl) hnw hone hroom (by rw [h3,hcs];simp;omega);rw [ha] at this;injection this with e1 _
        subst e1;exact .inl rfl
      · have holds:=hrow.cells (g:=g) rfl;have:=run_append_grow (P:=Try.prog) (w:=w) 56 ty 2 i y Try.underlying56 h1 h2 ⟨g,0,none⟩ l.length cap (l.map (Value.int .i64)) (by rw [h3];simp) holds ⟨b2,0,none⟩ 1 c2 [.int .i64 z] (by rw [h3];rfl) hnw (by omega) (by omega) (by rw [h4];exact growslice_fits (by omega) hn);rw [ha] at this;injection this with e1 _
        subst e1;exact .inr rfl
theorem row_made0L {base b2:Nat} (hb:Blk w b2 2 #[]) (h:base ≤ b2):w.ownsRow base 2 1 (.slice (some ⟨b2,0,none⟩) 0 0) ([]:List Int).length (([]:List Int).map (Value.int .i64)) :=
  ⟨by simp,.inr ⟨b2,0,#[],rfl,h,hb,by simp,by unfold maxLen;omega,rfl,by simp⟩⟩
theorem haslong_row {base:Nat} {v:Value} {l:List Int} {z:Int} (hrow:w.ownsRow base 2 1 v l.length (l.map (Value.int .i64))) (hl:l.length ≤ 2305843009213693952) :
    Calls Try.prog 92 #[v,.int .i64 z] w fun e w'=>e=.returned (.bool (among l z))∧Keep (fun g=>g < w.heap.size) w w':=by
  obtain ⟨a,c,rfl,hL⟩:=row_longs hrow;refine Calls.mono (has_longs hL hl z) ?_;rintro e w' ⟨rfl,rfl⟩;exact ⟨rfl,Keep.refl _ _⟩
theorem var_wf {B:Nat}:∀ {t:Tm},(∃ p c,TmAt B w t p c)→t.right=true→∀ {y:Int},y ∈ t.tree.vars→(ik y).wf=true:=by
  intro t;induction t using Tm.ind with
  | h k nm i args ih =>
    rintro ⟨p,c,hT⟩ hr y hy;have hR:=right_of.1 hr;have hx:=(T.mem_vars _ y).1 hy;rcases Tm.ok_kind hR.1 with hk | hk | hk | hk
    · rw [tree_1 hk] at hx;have:=has_v.1 hx;subst this;exact hT.wk.2.1
    · rw [tree_2 hk] at hx;exact absurd hx has_n
    · rw [tree_3 hk] at hx;exact absurd hx has_a
    · rw [tree_4 hk] at hx;obtain ⟨z,hz,hzy⟩:=has_c.1 hx;obtain ⟨u,hu,rfl⟩:=List.mem_map.1 hz;have hu':u ∈ args:=hu;have hru:=right_of.2 (Tm.part_right hR hk u hu);obtain ⟨j,hj,he⟩:=List.getElem_of_mem hu;obtain ⟨_,_,_,_,_,_,hat2,_⟩:=hT.arg (j:=j) (x:=u) (by rw [List.getElem?_eq_getElem hj,he]);exact ih u hu' ⟨_,_,hat2⟩ hru ((T.mem_vars _ y).2 hzy)
end
end Go.Proofs.Ytjinmnekfhekpaa

/-
  Package term's contracts, each with its answer named. No condition.
-/
import Derived.Test.YtjinmnekfhekpaaQMQ
namespace Go.Proofs.Ytjinmnekfhekpaa
open Go.RowKit Go.Maps
set_option linter.unusedVariables false
set_option linter.unusedSimpArgs false
section
variable {w:World} {t u x:Tm} {a b:Option Addr} {c d:Nat}
theorem rename_sx {m n e:Int} (hT:TmAt w.heap.size w t a c) (hm:(ik m).wf=true) (h:rnV t m=(x,n,e)):Calls Try.prog 12 #[tv t a c,.int .i64 m] w fun e' w'=>∃ a' c',e'=.returned (.tuple #[tv x a' c',.int .i64 n,.int .i64 e])∧TmAt w'.heap.size w' x a' c'∧Keep (fun g=>g < w.heap.size) w w':=by
  have hr:=Rename_any hT hm;rw [h] at hr;refine Calls.mono hr ?_;rintro e w' ⟨a',c',rfl,hf,hk⟩;exact ⟨a',c',rfl,hf.at_ (Nat.zero_le _),hk⟩
theorem apply_sx {bs:List BP} {cap:Nat} {e:Int} (hS:BSl w.heap.size w a bs) (hT:TmAt w.heap.size w t b d) (hlen:bs.length ≤ 2305843009213693951) (ha:∀ g off,a=some ⟨g,off,none⟩→g < w.heap.size) (h:apV t bs=(x,e)) :
    Calls Try.prog 9 #[tv t b d,.slice a bs.length cap] w fun e' w'=>∃ a' c',e'=.returned (.tuple #[tv x a' c',.int .i64 e])∧TmAt w'.heap.size w' x a' c'∧Keep (fun g=>g < w.heap.size) w w':=by
  have hr:=Apply_any (cap:=cap) hS hT hlen ha;rw [h] at hr;refine Calls.mono hr ?_;rintro e w' ⟨a',c',rfl,hf,hk⟩;exact ⟨a',c',rfl,hf.at_ (Nat.zero_le _),hk⟩
theorem list_sx {ps:List TP} {cap:Nat} {e:Int} (hS:TmSl w.heap.size w a ps) (hT:TmAt w.heap.size w t b d) (hlen:ps.length ≤ 2305843009213693951) (ha:∀ g off,a=some ⟨g,off,none⟩→g < w.heap.size) (h:lsV (ps.map (·.1)) t=(x,e)) :
    Calls Try.prog 16 #[.slice a ps.length cap,tv t b d] w fun e' w'=>∃ a' c',e'=.returned (.tuple #[tv x a' c',.int .i64 e])∧TmAt w'.heap.size w' x a' c'∧Keep (fun g=>g < w.heap.size) w w':=by
  have hr:=List_any (cap:=cap) hS hT hlen ha;rw [h] at hr;refine Calls.mono hr ?_;rintro e w' ⟨a',c',rfl,hf,hk⟩;exact ⟨a',c',rfl,hf.at_ (Nat.zero_le _),hk⟩
theorem items_sx (hT:TmAt w.heap.size w t a c):Calls Try.prog 18 #[tv t a c] w fun e w'=>∃ (ua:Option Addr) (uc:Nat) (ps:List TP) (a':Option Addr) (c':Nat),e=.returned (.tuple #[.slice ua ps.length uc,tv (itV t).2 a' c'])∧(TmSl w'.heap.size w' ua ps∧ps.map (·.1)=(itV t).1∧TmAt w'.heap.size w' (itV t).2 a' c'∧∀ g off,ua=some ⟨g,off,none⟩→g < w'.heap.size)∧Keep (fun g=>g < w.heap.size) w w':=by
  refine Calls.mono (Items_any hT) ?_;rintro e w' ⟨u,ps,a',c',rfl,hr,hm,hp,he,hk⟩;have hps:∀ p ∈ ps,TmAt w'.heap.size w' p.1 p.2.1 p.2.2:=fun p h=>(hp p h).at_ (Nat.zero_le _);have hE:=he.at_ (Nat.zero_le _);by_cases h0:0 < ps.length
  · obtain ⟨g,cap,cs,h1,hB,hC,hD,hc⟩:=row_some (xs:=ps.flatMap TP.cells) (sz:=4) (n:=ps.length) (v:=u) hr h0;subst h1;refine ⟨_,cap,ps,a',c',rfl,⟨fun j p hj=>⟨⟨g,0,rfl,hC.lt,fun f v hv=>?_⟩,hps p (List.mem_of_getElem? hj)⟩,hm,hE,fun g' off h=>by cases h;exact hC.lt⟩,hk⟩;rw [Nat.zero_add];exact hc _ _ (by rw [flat_get ps j f (get_lt' hv),hj];exact hv)
  · have hz:ps.length=0:=by omega
    have hnil:ps=[]:=List.eq_nil_of_length_eq_zero hz;subst hnil;rcases hr.2 with ⟨rfl,_⟩ | ⟨g,cap,cur,rfl,hb,hg,_⟩
    · exact ⟨none,0,[],a',c',rfl,⟨fun j p hj=>by simp at hj,hm,hE,fun g off h=>by cases h⟩,hk⟩
    · exact ⟨_,cap,[],a',c',rfl,⟨fun j p hj=>by simp at hj,hm,hE,fun g' off h=>by cases h;exact Blk.lt (cs:=cur) (t:=24) hg⟩,hk⟩
theorem tmsl_on {w':World} {ps:List TP} (h:TmSl w.heap.size w a ps) (k:Keep (fun g=>g < w.heap.size) w w'):TmSl w'.heap.size w' a ps:=fun j p hp=>by
  obtain ⟨⟨b,off,ha,hb,hc⟩,ht⟩:=h j p hp;exact ⟨⟨b,off,ha,Nat.lt_of_lt_of_le hb k.size,fun f v hv=>cell_on (hc f v hv) k⟩,ht.on k⟩
theorem tmsl_addr {B:Nat} {ps:List TP} (h:TmSl B w a ps) {j:Nat} (hj:j < ps.length):∃ b off,a=some ⟨b,off,none⟩∧b < B:=by
  obtain ⟨⟨b,off,ha,hb,_⟩,_⟩:=h j _ (List.getElem?_eq_getElem hj);exact ⟨b,off,ha,hb⟩
theorem tmsl_at {B b off:Nat} {ps:List TP} (h:TmSl B w a ps) (ha:a=some ⟨b,off,none⟩) {j:Nat} {p:TP} (hj:ps[j]? = some p):(w.cell? ⟨b,off + j * 4,none⟩=some (.int .i64 p.1.k)∧w.cell? ⟨b,off + j * 4 + 1,none⟩=some (.string (str p.1.nm))∧w.cell? ⟨b,off + j * 4 + 2,none⟩=some (.int .i64 p.1.i)∧w.cell? ⟨b,off + j * 4 + 3,none⟩=some (.slice p.2.1 p.1.args.length p.2.2))∧TmAt B w p.1 p.2.1 p.2.2:=by
  obtain ⟨⟨b',off',ha',hb,hc⟩,ht⟩:=h j p hj;rw [ha] at ha';cases ha';exact ⟨⟨hc 0 _ rfl,hc 1 _ rfl,hc 2 _ rfl,hc 3 _ rfl⟩,ht⟩
theorem ik_wf {m:Int} (h1:-9223372036854775808 ≤ m) (h2:m ≤ 9223372036854775807):(ik m).wf=true:=by
  unfold Lit.wf;have e1:IntKind.i64.min=-9223372036854775808:=by decide
  have e2:IntKind.i64.max=9223372036854775807:=by decide
  simp [e1,e2];omega
end
end Go.Proofs.Ytjinmnekfhekpaa

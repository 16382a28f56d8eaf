/-
  A row of numbers that a call is handed and answers, grown. No condition.
-/
import Derived.Test.YtjinmnekfhekpaaQSx7
import Derived.Test.YtjinmnekfhekpaaQSx4
namespace Go.Proofs.Ytjinmnekfhekpaa
open Go.RowKit Go.Maps
set_option linter.unusedVariables false
set_option linter.unusedSimpArgs false
structure VRow (B:Nat) (W w:World) (u v:Value) (l:List Int):Prop where
  row:w.ownsRow B 2 1 v l.length (l.map (Value.int .i64))
  kp:Keep (fun g=>g < W.heap.size∧u.ownBlock ≠ some g) W w
  ow:∀ g,v.ownBlock=some g→u.ownBlock=some g∨W.heap.size ≤ g
section
variable {B:Nat} {W w w':World} {u v v':Value} {l l':List Int}
theorem VRow.refl (h:w.ownsRow B 2 1 v l.length (l.map (Value.int .i64))):VRow B w w v v l:=⟨h,Keep.refl _ _,fun g hg=>.inl hg⟩
theorem VRow.trans (h:VRow B W w u v l) (k:VRow B w w' v v' l'):VRow B W w' u v' l':=by
  refine ⟨k.row,h.kp.trans (k.kp.less fun g hg=>⟨Nat.lt_of_lt_of_le hg.1 h.kp.size,fun e=>?_⟩),fun g hg=>?_⟩
  · rcases h.ow g e with e | e
    · exact hg.2 e
    · omega
  · rcases k.ow g hg with e | e
    · exact h.ow g e
    · have:=h.kp.size;right;omega
theorem VRow.on (h:VRow B W w u v l) (k:Keep (fun g=>g < w.heap.size) w w'):VRow B W w' u v l :=
  ⟨row_on h.row k fun g hg=>(h.row.lt g hg).2,h.kp.trans (k.less fun g hg=>Nat.lt_of_lt_of_le hg.1 h.kp.size),h.ow⟩
theorem VRow.below (h:VRow B W w u v l) (hB:B ≤ W.heap.size) (hu:∀ g,u.ownBlock=some g→B ≤ g):Keep (fun g=>g < B) W w:=h.kp.less fun g hg=>⟨by omega,fun e=>by have:=hu g e;omega⟩
theorem VRow.box {b:Nat} {t:TypeId} {cs:Array Value} (h:VRow B W w u v l) (hb:Blk W b t cs) (hu:u.ownBlock ≠ some b):Blk w b t cs:=hb.keep h.kp ⟨hb.lt,hu⟩
theorem VRow.push {z:Int} {ty:TypeId} {b2 c2:Nat} (h:w.ownsRow B 2 1 v l.length (l.map (Value.int .i64))) (hB:B ≤ w.heap.size) (k:Keep (fun g=>g < w.heap.size) w w') (hb:Blk w' b2 2 #[.int .i64 z]) (hn:l.length < 100000) :
    ∃ va vc w3,(Builtin.append_ #[56,56] ty #[v,.slice (some ⟨b2,0,none⟩) 1 c2]).run Try.prog w'=.ok (.slice va (l ++ [z]).length vc) w3∧VRow B w w3 v (.slice va (l ++ [z]).length vc) (l ++ [z])∧Keep (fun g=>v.ownBlock ≠ some g) w' w3:=by
  have h2:=row_kept h k;obtain ⟨v',w3,ha,hr,kb,ko,hown⟩:=append_long (ty:=ty) (c2:=c2) h2 hb (by omega) (Nat.le_trans hB k.size);have hs:∃ va vc,v'=.slice va (l ++ [z]).length vc:=by
    rcases hr.2 with ⟨_,h0⟩ | ⟨g,cap,cur,e,_⟩
    · exact absurd h0 (by simp)
    · exact ⟨_,_,e⟩
  obtain ⟨va,vc,rfl⟩:=hs;refine ⟨va,vc,w3,ha,⟨hr,k.less (fun g hg=>hg.1) |>.trans (ko.less fun g hg=>hg.2),fun g hg=>?_⟩,ko⟩;rcases hown with e | e
  · left;rw [← e];exact hg
  · right;rw [e] at hg;cases hg;exact k.size
end
end Go.Proofs.Ytjinmnekfhekpaa

/-
  Rows of numbers that grow; a term made out of a slice of terms; one binding as a slice. No condition.
-/
import Derived.Test.YtmgephleogiaoaaNSx2
import Derived.Test.YtmgephleogiaoaaNMA
import Derived.Test.YtmgephleogiaoaaNMB
import Derived.Test.YtmgephleogiaoaaNMC
import Derived.Test.YtmgephleogiaoaaNMD
import Derived.Test.YtmgephleogiaoaaNME
import Derived.Test.YtmgephleogiaoaaNMF
import Derived.Test.YtmgephleogiaoaaNMG
import Derived.Test.YtmgephleogiaoaaNMH
import Derived.Test.YtmgephleogiaoaaNMI
import Derived.Maps.RangeWalk
import Derived.Test.YtmgephleogiaoaaNMK
import Derived.Test.YtmgephleogiaoaaNML
import Derived.Test.YtmgephleogiaoaaNMM
import Derived.Test.YtmgephleogiaoaaNMP
import Derived.Test.YtmgephleogiaoaaNMQ
namespace Go.Proofs.Ytmgephleogiaoaa
open Go.RowKit Go.Maps
set_option linter.unusedVariables false
set_option linter.unusedSimpArgs false
section
variable {w:World} {t u x:Tm} {a b:Option Addr} {c d:Nat}
theorem fr_in {B0 lo hi:Nat} {Q:Nat→Prop} {w':World} (h:Fr B0 Q w lo hi t a c) (hB:B0=0) (k:Keep (fun g=>lo ≤ g∧g < hi) w w'):Fr B0 Q w' lo hi t a c:=by
  induction h with
  | old h hl=>exact .old (h.keepX k (fun g hg=>by omega)) hl
  | node hk1 hw hn h8 hlb hub hq blk hcp hs ih=>exact .node hk1 hw hn h8 hlb hub hq (blk.keep k ⟨hlb,hub⟩) hcp ih
theorem fr_tm {lo:Nat} {V:World} {Q:Nat→Prop} {w':World} (h:Fr 0 Q V lo V.heap.size t a c) (k:Keep (fun g=>lo ≤ g∧g < V.heap.size) V w'):TmAt w'.heap.size w' t a c:=((fr_in h rfl k).at_ (Nat.zero_le _)).up k.size
theorem apply_fr {bs:List BP} {cap:Nat} {e:Int} (hS:BSl w.heap.size w a bs) (hT:TmAt w.heap.size w t b d) (hlen:bs.length ≤ 2305843009213693951) (ha:∀ g off,a=some ⟨g,off,none⟩→g < w.heap.size) (h:apV t bs=(x,e)) :
    Calls Try.prog 36 #[tv t b d,.slice a bs.length cap] w fun e' w'=>∃ a' c',e'=.returned (.tuple #[tv x a' c',.int .i64 e])∧Fr 0 (fun _=>False) w' w.heap.size w'.heap.size x a' c'∧Keep (fun g=>g < w.heap.size) w w':=by
  have hr:=Apply_any (cap:=cap) hS hT hlen ha
  rw [h] at hr
  exact hr
end
end Go.Proofs.Ytmgephleogiaoaa

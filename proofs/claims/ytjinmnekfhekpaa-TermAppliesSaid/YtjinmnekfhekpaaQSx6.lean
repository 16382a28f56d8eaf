/-
  Many numbers put behind a row of one's own. No condition.
-/
import Derived.Test.YtjinmnekfhekpaaQSx5
import Derived.Test.YtjinmnekfhekpaaQTp6
namespace Go.Proofs.Ytjinmnekfhekpaa
open Go.RowKit Go.Maps
set_option linter.unusedVariables false
set_option linter.unusedSimpArgs false
section
variable {w:World} {t u x:Tm} {a b:Option Addr} {c d:Nat}
theorem longs_on {w':World} {l:List Int} (h:LongsAt w a l) (k:Keep (fun g=>g < w.heap.size) w w'):LongsAt w' a l:=fun j hj=>by
  obtain ⟨b,o,e,hl,hc⟩:=h j hj;exact ⟨b,o,e,Nat.lt_of_lt_of_le hl k.size,cell_on hc k⟩
end
end Go.Proofs.Ytjinmnekfhekpaa

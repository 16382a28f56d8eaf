/-
  Joined texts (Tv23, Tv25, Tv26). No condition.
-/
import Derived.Test.YtfkbbbjicaedmaaGreatDoorUMG
import Derived.Deep.RegionHeld3
import Derived.Deep.DeepCutAuto
namespace Go.Proofs.YtfkbbbjicaedmaaGreatDoor
open Go.RowKit Go.Maps
set_option linter.unusedVariables false
set_option linter.unusedSimpArgs false
end Go.Proofs.YtfkbbbjicaedmaaGreatDoor
namespace Go.Proofs.YtfkbbbjicaedmaaGreatDoor
open Go.RowKit Go.Maps
set_option linter.unusedVariables false
set_option linter.unusedSimpArgs false
abbrev RR : Tm := xC [102] [xV 1, xV 2, xV 1]
end Go.Proofs.YtfkbbbjicaedmaaGreatDoor
namespace Go.Proofs.YtfkbbbjicaedmaaGreatDoor
open Go.RowKit Go.Maps
set_option linter.unusedVariables false
set_option linter.unusedSimpArgs false
end Go.Proofs.YtfkbbbjicaedmaaGreatDoor

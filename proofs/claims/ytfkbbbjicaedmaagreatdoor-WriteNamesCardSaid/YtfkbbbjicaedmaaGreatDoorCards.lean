/-
  DERIVED. GIVEN WITH THE SEED: THE CARDS: each row of YtfkbbbjicaedmaaGreatDoorRows.lean that lists a variable, with what it lists TIED to the program's text (the seventh form; the later family's looks); each row that meets fmt, with fmt's text TOLD by the authors' own Lean function (tested against real Go, not proved from fmt's source: count such statements apart). THE CARD IS WHAT COUNTS. Prove the row's statement (the work); the ties are given (YtfkbbbjicaedmaaGreatDoorTie.lean); close each card by the builder's one call (the guide's Derived/Test/ToyasCard.lean, 'card_holds'). Laid BY PROGRAM, IN A SANDBOX (cutbox-door.mjs). By AI agents, Wed Nov 11 2026. No macro, syntax, notation, axiom, sorry.
-/
import Derived.Test.YtfkbbbjicaedmaaGreatDoorRows
import GoSem.ClaimSeven
namespace Go.Proofs.YtfkbbbjicaedmaaGreatDoor
namespace Rows

/-- THE TIED CARD OF 'pythialaw11.WritePlays'. -/
def writePlaysCard : Claim7 := { stood := { row := writePlaysRow, standIns := [], harness := (true, "724f906d15e0e85391a88fd3b28b9c208562033fb1b6f9ccc781bb054011342f"), looks := true }, kinds := [], alts := [], laidByText := true, laidKinds := [.data, .data, .data, .sentinel, .sentinel], laidTests := true, laidLooks := .later }
def WritePlaysCardSaid : Prop := Claim7.holds Tryz.pinned (.plain (OpenSpec.ofChange writePlaysSpec)) writePlaysCard

/-- THE TIED CARD OF 'pythialaw11.WriteNames'. -/
def writeNamesCard : Claim7 := { stood := { row := writeNamesRow, standIns := [], harness := (true, "724f906d15e0e85391a88fd3b28b9c208562033fb1b6f9ccc781bb054011342f"), looks := true }, kinds := [], alts := [], laidByText := true, laidKinds := [.data, .data, .data, .sentinel, .sentinel], laidTests := true, laidLooks := .later }
def WriteNamesCardSaid : Prop := Claim7.holds Tryz.pinned (.plain (OpenSpec.ofChange writeNamesSpec)) writeNamesCard

/-- THE TIED CARD OF 'pythialaw11.WriteOnce'. -/
def writeOnceCard : Claim7 := { stood := { row := writeOnceRow, standIns := [], harness := (true, "724f906d15e0e85391a88fd3b28b9c208562033fb1b6f9ccc781bb054011342f"), looks := true }, kinds := [], alts := [], laidByText := true, laidKinds := [.data, .data, .data, .sentinel, .sentinel], laidTests := true, laidLooks := .later }
def WriteOnceCardSaid : Prop := Claim7.holds Tryz.pinned (.plain (OpenSpec.ofChange writeOnceSpec)) writeOnceCard

/-- THE TIED CARD OF 'pythialaw11.WriteParts'. -/
def writePartsCard : Claim7 := { stood := { row := writePartsRow, standIns := [], harness := (true, "724f906d15e0e85391a88fd3b28b9c208562033fb1b6f9ccc781bb054011342f"), looks := true }, kinds := [], alts := [], laidByText := true, laidKinds := [.data, .data, .data, .sentinel, .sentinel], laidTests := true, laidLooks := .later }
def WritePartsCardSaid : Prop := Claim7.holds Tryz.pinned (.plain (OpenSpec.ofChange writePartsSpec)) writePartsCard

/-- THE SECOND FORM's CARD OF 'pythialaw11.WritePlays'. -/
def writePlaysUptoCard : Claim7 := { stood := { row := writePlaysUptoRow, standIns := [], harness := (true, "724f906d15e0e85391a88fd3b28b9c208562033fb1b6f9ccc781bb054011342f"), looks := true }, kinds := [], alts := [], laidByText := true, laidKinds := [.data, .data, .data, .sentinel, .sentinel], laidTests := true, laidLooks := .later }
def WritePlaysUptoCardSaid : Prop := Claim7.holds Tryz.pinned (.plain (OpenSpec.upto writePlaysSpec)) writePlaysUptoCard

/-- THE SECOND FORM's CARD OF 'pythialaw11.WriteNames'. -/
def writeNamesUptoCard : Claim7 := { stood := { row := writeNamesUptoRow, standIns := [], harness := (true, "724f906d15e0e85391a88fd3b28b9c208562033fb1b6f9ccc781bb054011342f"), looks := true }, kinds := [], alts := [], laidByText := true, laidKinds := [.data, .data, .data, .sentinel, .sentinel], laidTests := true, laidLooks := .later }
def WriteNamesUptoCardSaid : Prop := Claim7.holds Tryz.pinned (.plain (OpenSpec.upto writeNamesSpec)) writeNamesUptoCard

/-- THE SECOND FORM's CARD OF 'pythialaw11.WriteOnce'. -/
def writeOnceUptoCard : Claim7 := { stood := { row := writeOnceUptoRow, standIns := [], harness := (true, "724f906d15e0e85391a88fd3b28b9c208562033fb1b6f9ccc781bb054011342f"), looks := true }, kinds := [], alts := [], laidByText := true, laidKinds := [.data, .data, .data, .sentinel, .sentinel], laidTests := true, laidLooks := .later }
def WriteOnceUptoCardSaid : Prop := Claim7.holds Tryz.pinned (.plain (OpenSpec.upto writeOnceSpec)) writeOnceUptoCard

/-- THE SECOND FORM's CARD OF 'pythialaw11.WriteParts'. -/
def writePartsUptoCard : Claim7 := { stood := { row := writePartsUptoRow, standIns := [], harness := (true, "724f906d15e0e85391a88fd3b28b9c208562033fb1b6f9ccc781bb054011342f"), looks := true }, kinds := [], alts := [], laidByText := true, laidKinds := [.data, .data, .data, .sentinel, .sentinel], laidTests := true, laidLooks := .later }
def WritePartsUptoCardSaid : Prop := Claim7.holds Tryz.pinned (.plain (OpenSpec.upto writePartsSpec)) writePartsUptoCard
end Rows
end Go.Proofs.YtfkbbbjicaedmaaGreatDoor

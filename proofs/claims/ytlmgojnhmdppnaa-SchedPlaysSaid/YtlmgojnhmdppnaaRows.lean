/-
  No cell of these rows narrows 'for every input' (looked for: loops, veiled, ifaces, maps, wideKeys, modest, calm, conditions, laid).
  DERIVED. THE GIVEN ROWS OF THIS SEAT. 10 by the template 'for every input the law returns true; each argument reads behind the call as it read before'; 0 by the template 'total and deterministic' (their statements: YtlmgojnhmdppnaaTotals.lean).
  GIVEN WITH THE SEED: the statements are not yours to turn. If you find one false, say at which input.
  Laid BY PROGRAM, IN A SANDBOX (cutbox-rows.mjs): the forced cells as the released guide's own fill.sh prints them over the translation 32fcf3d6b4e305f6… (all of the seat's roots in one cut). By AI agents, Wed Nov 11 2026. No macro, syntax, notation, axiom, sorry.
-/
import Derived.Test.YtlmgojnhmdppnaaChecked
import GoSem.Claim
import GoSem.ClaimJoined
import GoSem.ClaimMapViews
import Derived.JoinedTies
import Derived.KernelRfl
namespace Go.Proofs.Ytlmgojnhmdppnaa
/- THE CELL 'sum', in the pinned program and in every row, IS THE sha256 OF THE DUMP (.gsa) THAT YtlmgojnhmdppnaaProg.lean LOADS. Nothing in Lean hashes anything: it is a label: what it is worth is what the hold of that sum in a sandbox is worth. -/
noncomputable def Try.pinned : Pinned := { name := "ytlmgojnhmdppnaa", sum := "32fcf3d6b4e305f698c509d735a3871062b49ad7a4911daa0cd3129938cfee02", checked := Try.checked }
namespace Rows
def none {H : Type} : Left H := { results := [], args := [] }

/-- 'pythialaw03.AtomsAlone': WHATEVER THE INPUT: true; the input reads as it did. -/
def atomsAloneSpec : ChangeSpec := { name := "atomsAlone", fn := fun _ => fun
  | [d1, d2, d3] => { results := [.lit (.bool true)], args := [d1, d2, d3] }
  | _ => none }
def atomsAloneRow : OpenClaim := { program := "ytlmgojnhmdppnaa", sum := "32fcf3d6b4e305f698c509d735a3871062b49ad7a4911daa0cd3129938cfee02", func := "pythia/pythialaw03.AtomsAlone", spec := "atomsAlone", apart := false }
def AtomsAloneSaid : Prop := atomsAloneRow.holds Try.pinned (OpenSpec.ofChange atomsAloneSpec)

/-- ITS FALSE NEIGHBOUR: 'it returns false'. Refute it at one input. -/
def atomsAloneWrong : ChangeSpec := { name := "atomsAlone", fn := fun _ => fun
  | [d1, d2, d3] => { results := [.lit (.bool false)], args := [d1, d2, d3] }
  | _ => none }
def AtomsAloneWrongFalsely : Prop := atomsAloneRow.holds Try.pinned (OpenSpec.ofChange atomsAloneWrong)

/-- 'pythialaw03.AtomsFree': WHATEVER THE INPUT: true; the input reads as it did. -/
def atomsFreeSpec : ChangeSpec := { name := "atomsFree", fn := fun _ => fun
  | [d1, d2, d3, d4] => { results := [.lit (.bool true)], args := [d1, d2, d3, d4] }
  | _ => none }
def atomsFreeRow : OpenClaim := { program := "ytlmgojnhmdppnaa", sum := "32fcf3d6b4e305f698c509d735a3871062b49ad7a4911daa0cd3129938cfee02", func := "pythia/pythialaw03.AtomsFree", spec := "atomsFree", apart := false }
def AtomsFreeSaid : Prop := atomsFreeRow.holds Try.pinned (OpenSpec.ofChange atomsFreeSpec)

/-- ITS FALSE NEIGHBOUR: 'it returns false'. Refute it at one input. -/
def atomsFreeWrong : ChangeSpec := { name := "atomsFree", fn := fun _ => fun
  | [d1, d2, d3, d4] => { results := [.lit (.bool false)], args := [d1, d2, d3, d4] }
  | _ => none }
def AtomsFreeWrongFalsely : Prop := atomsFreeRow.holds Try.pinned (OpenSpec.ofChange atomsFreeWrong)

/-- 'pythialaw05.ChainAlone': WHATEVER THE INPUT: true; the input reads as it did. -/
def chainAloneSpec : ChangeSpec := { name := "chainAlone", fn := fun _ => fun
  | [d1, d2, d3] => { results := [.lit (.bool true)], args := [d1, d2, d3] }
  | _ => none }
def chainAloneRow : OpenClaim := { program := "ytlmgojnhmdppnaa", sum := "32fcf3d6b4e305f698c509d735a3871062b49ad7a4911daa0cd3129938cfee02", func := "pythia/pythialaw05.ChainAlone", spec := "chainAlone", unfollowed := true, recurses := true, apart := false }
def ChainAloneSaid : Prop := chainAloneRow.holds Try.pinned (OpenSpec.ofChange chainAloneSpec)

/-- ITS FALSE NEIGHBOUR: 'it returns false'. Refute it at one input. -/
def chainAloneWrong : ChangeSpec := { name := "chainAlone", fn := fun _ => fun
  | [d1, d2, d3] => { results := [.lit (.bool false)], args := [d1, d2, d3] }
  | _ => none }
def ChainAloneWrongFalsely : Prop := chainAloneRow.holds Try.pinned (OpenSpec.ofChange chainAloneWrong)

/-- 'pythialaw05.ChainFree': WHATEVER THE INPUT: true; the input reads as it did. -/
def chainFreeSpec : ChangeSpec := { name := "chainFree", fn := fun _ => fun
  | [d1, d2, d3] => { results := [.lit (.bool true)], args := [d1, d2, d3] }
  | _ => none }
def chainFreeRow : OpenClaim := { program := "ytlmgojnhmdppnaa", sum := "32fcf3d6b4e305f698c509d735a3871062b49ad7a4911daa0cd3129938cfee02", func := "pythia/pythialaw05.ChainFree", spec := "chainFree", unfollowed := true, recurses := true, apart := false }
def ChainFreeSaid : Prop := chainFreeRow.holds Try.pinned (OpenSpec.ofChange chainFreeSpec)

/-- ITS FALSE NEIGHBOUR: 'it returns false'. Refute it at one input. -/
def chainFreeWrong : ChangeSpec := { name := "chainFree", fn := fun _ => fun
  | [d1, d2, d3] => { results := [.lit (.bool false)], args := [d1, d2, d3] }
  | _ => none }
def ChainFreeWrongFalsely : Prop := chainFreeRow.holds Try.pinned (OpenSpec.ofChange chainFreeWrong)

/-- 'pythialaw05.ChainApart': WHATEVER THE INPUT: true; the input reads as it did. -/
def chainApartSpec : ChangeSpec := { name := "chainApart", fn := fun _ => fun
  | [d1, d2, d3] => { results := [.lit (.bool true)], args := [d1, d2, d3] }
  | _ => none }
def chainApartRow : OpenClaim := { program := "ytlmgojnhmdppnaa", sum := "32fcf3d6b4e305f698c509d735a3871062b49ad7a4911daa0cd3129938cfee02", func := "pythia/pythialaw05.ChainApart", spec := "chainApart", unfollowed := true, recurses := true, apart := false }
def ChainApartSaid : Prop := chainApartRow.holds Try.pinned (OpenSpec.ofChange chainApartSpec)

/-- ITS FALSE NEIGHBOUR: 'it returns false'. Refute it at one input. -/
def chainApartWrong : ChangeSpec := { name := "chainApart", fn := fun _ => fun
  | [d1, d2, d3] => { results := [.lit (.bool false)], args := [d1, d2, d3] }
  | _ => none }
def ChainApartWrongFalsely : Prop := chainApartRow.holds Try.pinned (OpenSpec.ofChange chainApartWrong)

/-- 'pythialaw06.SchedPlays': WHATEVER THE INPUT: true; the input reads as it did. -/
def schedPlaysSpec : ChangeSpec := { name := "schedPlays", fn := fun _ => fun
  | [d1, d2] => { results := [.lit (.bool true)], args := [d1, d2] }
  | _ => none }
def schedPlaysRow : OpenClaim := { program := "ytlmgojnhmdppnaa", sum := "32fcf3d6b4e305f698c509d735a3871062b49ad7a4911daa0cd3129938cfee02", func := "pythia/pythialaw06.SchedPlays", spec := "schedPlays", unfollowed := true, recurses := true, apart := false }
def SchedPlaysSaid : Prop := schedPlaysRow.holds Try.pinned (OpenSpec.ofChange schedPlaysSpec)

/-- ITS FALSE NEIGHBOUR: 'it returns false'. Refute it at one input. -/
def schedPlaysWrong : ChangeSpec := { name := "schedPlays", fn := fun _ => fun
  | [d1, d2] => { results := [.lit (.bool false)], args := [d1, d2] }
  | _ => none }
def SchedPlaysWrongFalsely : Prop := schedPlaysRow.holds Try.pinned (OpenSpec.ofChange schedPlaysWrong)

/-- 'pythialaw06.SchedWakes': WHATEVER THE INPUT: true; the input reads as it did. -/
def schedWakesSpec : ChangeSpec := { name := "schedWakes", fn := fun _ => fun
  | [d1, d2] => { results := [.lit (.bool true)], args := [d1, d2] }
  | _ => none }
def schedWakesRow : OpenClaim := { program := "ytlmgojnhmdppnaa", sum := "32fcf3d6b4e305f698c509d735a3871062b49ad7a4911daa0cd3129938cfee02", func := "pythia/pythialaw06.SchedWakes", spec := "schedWakes", unfollowed := true, recurses := true, apart := false }
def SchedWakesSaid : Prop := schedWakesRow.holds Try.pinned (OpenSpec.ofChange schedWakesSpec)

/-- ITS FALSE NEIGHBOUR: 'it returns false'. Refute it at one input. -/
def schedWakesWrong : ChangeSpec := { name := "schedWakes", fn := fun _ => fun
  | [d1, d2] => { results := [.lit (.bool false)], args := [d1, d2] }
  | _ => none }
def SchedWakesWrongFalsely : Prop := schedWakesRow.holds Try.pinned (OpenSpec.ofChange schedWakesWrong)

/-- 'pythialaw06.SchedNumbers': WHATEVER THE INPUT: true; the input reads as it did. -/
def schedNumbersSpec : ChangeSpec := { name := "schedNumbers", fn := fun _ => fun
  | [d1, d2] => { results := [.lit (.bool true)], args := [d1, d2] }
  | _ => none }
def schedNumbersRow : OpenClaim := { program := "ytlmgojnhmdppnaa", sum := "32fcf3d6b4e305f698c509d735a3871062b49ad7a4911daa0cd3129938cfee02", func := "pythia/pythialaw06.SchedNumbers", spec := "schedNumbers", unfollowed := true, recurses := true, apart := false }
def SchedNumbersSaid : Prop := schedNumbersRow.holds Try.pinned (OpenSpec.ofChange schedNumbersSpec)

/-- ITS FALSE NEIGHBOUR: 'it returns false'. Refute it at one input. -/
def schedNumbersWrong : ChangeSpec := { name := "schedNumbers", fn := fun _ => fun
  | [d1, d2] => { results := [.lit (.bool false)], args := [d1, d2] }
  | _ => none }
def SchedNumbersWrongFalsely : Prop := schedNumbersRow.holds Try.pinned (OpenSpec.ofChange schedNumbersWrong)

/-- 'pythialaw06.SchedKeys': WHATEVER THE INPUT: true; the input reads as it did. -/
def schedKeysSpec : ChangeSpec := { name := "schedKeys", fn := fun _ => fun
  | [d1, d2, d3] => { results := [.lit (.bool true)], args := [d1, d2, d3] }
  | _ => none }
def schedKeysRow : OpenClaim := { program := "ytlmgojnhmdppnaa", sum := "32fcf3d6b4e305f698c509d735a3871062b49ad7a4911daa0cd3129938cfee02", func := "pythia/pythialaw06.SchedKeys", spec := "schedKeys", unfollowed := true, recurses := true, apart := false }
def SchedKeysSaid : Prop := schedKeysRow.holds Try.pinned (OpenSpec.ofChange schedKeysSpec)

/-- ITS FALSE NEIGHBOUR: 'it returns false'. Refute it at one input. -/
def schedKeysWrong : ChangeSpec := { name := "schedKeys", fn := fun _ => fun
  | [d1, d2, d3] => { results := [.lit (.bool false)], args := [d1, d2, d3] }
  | _ => none }
def SchedKeysWrongFalsely : Prop := schedKeysRow.holds Try.pinned (OpenSpec.ofChange schedKeysWrong)

/-- 'pythialaw06.SchedCounts': WHATEVER THE INPUT: true; the input reads as it did. -/
def schedCountsSpec : ChangeSpec := { name := "schedCounts", fn := fun _ => fun
  | [d1, d2] => { results := [.lit (.bool true)], args := [d1, d2] }
  | _ => none }
def schedCountsRow : OpenClaim := { program := "ytlmgojnhmdppnaa", sum := "32fcf3d6b4e305f698c509d735a3871062b49ad7a4911daa0cd3129938cfee02", func := "pythia/pythialaw06.SchedCounts", spec := "schedCounts", unfollowed := true, recurses := true, apart := false }
def SchedCountsSaid : Prop := schedCountsRow.holds Try.pinned (OpenSpec.ofChange schedCountsSpec)

/-- ITS FALSE NEIGHBOUR: 'it returns false'. Refute it at one input. -/
def schedCountsWrong : ChangeSpec := { name := "schedCounts", fn := fun _ => fun
  | [d1, d2] => { results := [.lit (.bool false)], args := [d1, d2] }
  | _ => none }
def SchedCountsWrongFalsely : Prop := schedCountsRow.holds Try.pinned (OpenSpec.ofChange schedCountsWrong)

/- THE SECOND FORM. 'bulk': how many values and letters a reading holds, each counted each time it is reached (what is shared counts as often as it is met; a slice's spare places count too). A statement '..UptoSaid' is the law's where the arguments, and the package variables that the reading takes, are together of bulk at most 1048576: NARROWER than '..Said'. Prove '..Said' where nothing that the law and all that it calls make is longer than what came in: it says more and counts as full. Else prove '..UptoSaid'. A law counts once. -/
mutual
def uptoBulk {H : Type} : DataW H → Nat
  | .lit (.string bytes) => bytes.length + 1
  | .lit _ => 1
  | .nil => 1
  | .ptr d => uptoBulk d + 1
  | .slice elems spare => uptoBulkAll elems + uptoBulkAll spare + 1
  | .agg parts => uptoBulkAll parts + 1
  | .iface _ d => uptoBulk d + 1
  | .map entries => uptoBulkEntries entries + 1
  | .held _ => 1
def uptoBulkAll {H : Type} : List (DataW H) → Nat
  | [] => 0
  | d :: r => uptoBulk d + uptoBulkAll r
def uptoBulkEntries {H : Type} : List (Lit × DataW H) → Nat
  | [] => 0
  | x :: r => uptoBulkEntry x + uptoBulkEntries r
def uptoBulkEntry {H : Type} : Lit × DataW H → Nat
  | (.string bytes, d) => bytes.length + uptoBulk d + 1
  | (_, d) => uptoBulk d + 1
 end
def uptoSmall : (H : Type) → List (DataW H) → Bool := fun _ ds => decide (uptoBulkAll ds ≤ 1048576)
def OpenSpec.upto (s : _root_.Go.ChangeSpec) : _root_.Go.OpenSpec := { _root_.Go.OpenSpec.ofChange s with cond := some uptoSmall }

/-- 'pythialaw03.AtomsAlone', WHERE WHAT IT READS IS OF BULK AT MOST 1048576: true; the input reads as it did. -/
def atomsAloneUptoRow : OpenClaim := { program := "ytlmgojnhmdppnaa", sum := "32fcf3d6b4e305f698c509d735a3871062b49ad7a4911daa0cd3129938cfee02", func := "pythia/pythialaw03.AtomsAlone", spec := "atomsAlone", apart := false, narrowed := true }
def AtomsAloneUptoSaid : Prop := atomsAloneUptoRow.holds Try.pinned (OpenSpec.upto atomsAloneSpec)

/-- 'pythialaw03.AtomsFree', WHERE WHAT IT READS IS OF BULK AT MOST 1048576: true; the input reads as it did. -/
def atomsFreeUptoRow : OpenClaim := { program := "ytlmgojnhmdppnaa", sum := "32fcf3d6b4e305f698c509d735a3871062b49ad7a4911daa0cd3129938cfee02", func := "pythia/pythialaw03.AtomsFree", spec := "atomsFree", apart := false, narrowed := true }
def AtomsFreeUptoSaid : Prop := atomsFreeUptoRow.holds Try.pinned (OpenSpec.upto atomsFreeSpec)

/-- 'pythialaw05.ChainAlone', WHERE WHAT IT READS IS OF BULK AT MOST 1048576: true; the input reads as it did. -/
def chainAloneUptoRow : OpenClaim := { program := "ytlmgojnhmdppnaa", sum := "32fcf3d6b4e305f698c509d735a3871062b49ad7a4911daa0cd3129938cfee02", func := "pythia/pythialaw05.ChainAlone", spec := "chainAlone", unfollowed := true, recurses := true, apart := false, narrowed := true }
def ChainAloneUptoSaid : Prop := chainAloneUptoRow.holds Try.pinned (OpenSpec.upto chainAloneSpec)

/-- 'pythialaw05.ChainFree', WHERE WHAT IT READS IS OF BULK AT MOST 1048576: true; the input reads as it did. -/
def chainFreeUptoRow : OpenClaim := { program := "ytlmgojnhmdppnaa", sum := "32fcf3d6b4e305f698c509d735a3871062b49ad7a4911daa0cd3129938cfee02", func := "pythia/pythialaw05.ChainFree", spec := "chainFree", unfollowed := true, recurses := true, apart := false, narrowed := true }
def ChainFreeUptoSaid : Prop := chainFreeUptoRow.holds Try.pinned (OpenSpec.upto chainFreeSpec)

/-- 'pythialaw05.ChainApart', WHERE WHAT IT READS IS OF BULK AT MOST 1048576: true; the input reads as it did. -/
def chainApartUptoRow : OpenClaim := { program := "ytlmgojnhmdppnaa", sum := "32fcf3d6b4e305f698c509d735a3871062b49ad7a4911daa0cd3129938cfee02", func := "pythia/pythialaw05.ChainApart", spec := "chainApart", unfollowed := true, recurses := true, apart := false, narrowed := true }
def ChainApartUptoSaid : Prop := chainApartUptoRow.holds Try.pinned (OpenSpec.upto chainApartSpec)

/-- 'pythialaw06.SchedPlays', WHERE WHAT IT READS IS OF BULK AT MOST 1048576: true; the input reads as it did. -/
def schedPlaysUptoRow : OpenClaim := { program := "ytlmgojnhmdppnaa", sum := "32fcf3d6b4e305f698c509d735a3871062b49ad7a4911daa0cd3129938cfee02", func := "pythia/pythialaw06.SchedPlays", spec := "schedPlays", unfollowed := true, recurses := true, apart := false, narrowed := true }
def SchedPlaysUptoSaid : Prop := schedPlaysUptoRow.holds Try.pinned (OpenSpec.upto schedPlaysSpec)

/-- 'pythialaw06.SchedWakes', WHERE WHAT IT READS IS OF BULK AT MOST 1048576: true; the input reads as it did. -/
def schedWakesUptoRow : OpenClaim := { program := "ytlmgojnhmdppnaa", sum := "32fcf3d6b4e305f698c509d735a3871062b49ad7a4911daa0cd3129938cfee02", func := "pythia/pythialaw06.SchedWakes", spec := "schedWakes", unfollowed := true, recurses := true, apart := false, narrowed := true }
def SchedWakesUptoSaid : Prop := schedWakesUptoRow.holds Try.pinned (OpenSpec.upto schedWakesSpec)

/-- 'pythialaw06.SchedNumbers', WHERE WHAT IT READS IS OF BULK AT MOST 1048576: true; the input reads as it did. -/
def schedNumbersUptoRow : OpenClaim := { program := "ytlmgojnhmdppnaa", sum := "32fcf3d6b4e305f698c509d735a3871062b49ad7a4911daa0cd3129938cfee02", func := "pythia/pythialaw06.SchedNumbers", spec := "schedNumbers", unfollowed := true, recurses := true, apart := false, narrowed := true }
def SchedNumbersUptoSaid : Prop := schedNumbersUptoRow.holds Try.pinned (OpenSpec.upto schedNumbersSpec)

/-- 'pythialaw06.SchedKeys', WHERE WHAT IT READS IS OF BULK AT MOST 1048576: true; the input reads as it did. -/
def schedKeysUptoRow : OpenClaim := { program := "ytlmgojnhmdppnaa", sum := "32fcf3d6b4e305f698c509d735a3871062b49ad7a4911daa0cd3129938cfee02", func := "pythia/pythialaw06.SchedKeys", spec := "schedKeys", unfollowed := true, recurses := true, apart := false, narrowed := true }
def SchedKeysUptoSaid : Prop := schedKeysUptoRow.holds Try.pinned (OpenSpec.upto schedKeysSpec)

/-- 'pythialaw06.SchedCounts', WHERE WHAT IT READS IS OF BULK AT MOST 1048576: true; the input reads as it did. -/
def schedCountsUptoRow : OpenClaim := { program := "ytlmgojnhmdppnaa", sum := "32fcf3d6b4e305f698c509d735a3871062b49ad7a4911daa0cd3129938cfee02", func := "pythia/pythialaw06.SchedCounts", spec := "schedCounts", unfollowed := true, recurses := true, apart := false, narrowed := true }
def SchedCountsUptoSaid : Prop := schedCountsUptoRow.holds Try.pinned (OpenSpec.upto schedCountsSpec)

end Rows
end Go.Proofs.Ytlmgojnhmdppnaa

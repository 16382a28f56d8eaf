/-
  NARROWER THAN 'FOR EVERY INPUT', by the rows' own cells (each row's printed sentence says how): ArithPlays: loops · ArithDeep: loops · ArithBalls: loops.
  DERIVED. THE GIVEN ROWS OF THIS SEAT. 6 by the template 'for every input the law returns true; each argument reads behind the call as it read before'; 0 by the template 'total and deterministic' (their statements: YtmgephleogiaoaaTotals.lean).
  GIVEN WITH THE SEED: the statements are not yours to turn. If you find one false, say at which input.
  Laid BY PROGRAM, IN A SANDBOX (cutbox-rows.mjs): the forced cells as the released guide's own fill.sh prints them over the translation 1963834afb58c32f… (all of the seat's roots in one cut). By AI agents, Wed Nov 11 2026. No macro, syntax, notation, axiom, sorry.
-/
import Derived.Test.YtmgephleogiaoaaChecked
import GoSem.Claim
import GoSem.ClaimJoined
import GoSem.ClaimMapViews
import Derived.JoinedTies
import Derived.KernelRfl
namespace Go.Proofs.Ytmgephleogiaoaa
/- THE CELL 'sum', in the pinned program and in every row, IS THE sha256 OF THE DUMP (.gsa) THAT YtmgephleogiaoaaProg.lean LOADS. Nothing in Lean hashes anything: it is a label: what it is worth is what the hold of that sum in a sandbox is worth. -/
noncomputable def Try.pinned : Pinned := { name := "ytmgephleogiaoaa", sum := "1963834afb58c32f7063669f1ab26edd7f2cc12212c501c982d57405eba91f45", checked := Try.checked }
namespace Rows
def none {H : Type} : Left H := { results := [], args := [] }

/-- 'pythialaw12.ArithPlays': WHATEVER THE INPUT: true; the input reads as it did. -/
def arithPlaysSpec : ChangeSpec := { name := "arithPlays", fn := fun _ => fun
  | [d] => { results := [.lit (.bool true)], args := [d] }
  | _ => none }
def arithPlaysRow : OpenClaim := { program := "ytmgephleogiaoaa", sum := "1963834afb58c32f7063669f1ab26edd7f2cc12212c501c982d57405eba91f45", func := "pythia/pythialaw12.ArithPlays", spec := "arithPlays", unfollowed := true, recurses := true, loops := true, apart := false }
def ArithPlaysSaid : Prop := arithPlaysRow.holds Try.pinned (OpenSpec.ofChange arithPlaysSpec)

/-- ITS FALSE NEIGHBOUR: 'it returns false'. Refute it at one input. -/
def arithPlaysWrong : ChangeSpec := { name := "arithPlays", fn := fun _ => fun
  | [d] => { results := [.lit (.bool false)], args := [d] }
  | _ => none }
def ArithPlaysWrongFalsely : Prop := arithPlaysRow.holds Try.pinned (OpenSpec.ofChange arithPlaysWrong)

/-- 'pythialaw12.ArithNumbers': WHATEVER THE INPUT: true; the input reads as it did. -/
def arithNumbersSpec : ChangeSpec := { name := "arithNumbers", fn := fun _ => fun
  | [d1, d2, d3] => { results := [.lit (.bool true)], args := [d1, d2, d3] }
  | _ => none }
def arithNumbersRow : OpenClaim := { program := "ytmgephleogiaoaa", sum := "1963834afb58c32f7063669f1ab26edd7f2cc12212c501c982d57405eba91f45", func := "pythia/pythialaw12.ArithNumbers", spec := "arithNumbers", unfollowed := true, recurses := true, apart := false }
def ArithNumbersSaid : Prop := arithNumbersRow.holds Try.pinned (OpenSpec.ofChange arithNumbersSpec)

/-- ITS FALSE NEIGHBOUR: 'it returns false'. Refute it at one input. -/
def arithNumbersWrong : ChangeSpec := { name := "arithNumbers", fn := fun _ => fun
  | [d1, d2, d3] => { results := [.lit (.bool false)], args := [d1, d2, d3] }
  | _ => none }
def ArithNumbersWrongFalsely : Prop := arithNumbersRow.holds Try.pinned (OpenSpec.ofChange arithNumbersWrong)

/-- 'pythialaw12.ArithRules': WHATEVER THE INPUT: true; the input reads as it did. -/
def arithRulesSpec : ChangeSpec := { name := "arithRules", fn := fun _ => fun
  | [d1, d2] => { results := [.lit (.bool true)], args := [d1, d2] }
  | _ => none }
def arithRulesRow : OpenClaim := { program := "ytmgephleogiaoaa", sum := "1963834afb58c32f7063669f1ab26edd7f2cc12212c501c982d57405eba91f45", func := "pythia/pythialaw12.ArithRules", spec := "arithRules", unfollowed := true, recurses := true, apart := false }
def ArithRulesSaid : Prop := arithRulesRow.holds Try.pinned (OpenSpec.ofChange arithRulesSpec)

/-- ITS FALSE NEIGHBOUR: 'it returns false'. Refute it at one input. -/
def arithRulesWrong : ChangeSpec := { name := "arithRules", fn := fun _ => fun
  | [d1, d2] => { results := [.lit (.bool false)], args := [d1, d2] }
  | _ => none }
def ArithRulesWrongFalsely : Prop := arithRulesRow.holds Try.pinned (OpenSpec.ofChange arithRulesWrong)

/-- 'pythialaw12.ArithBits': WHATEVER THE INPUT: true; the input reads as it did. -/
def arithBitsSpec : ChangeSpec := { name := "arithBits", fn := fun _ => fun
  | [d1, d2, d3] => { results := [.lit (.bool true)], args := [d1, d2, d3] }
  | _ => none }
def arithBitsRow : OpenClaim := { program := "ytmgephleogiaoaa", sum := "1963834afb58c32f7063669f1ab26edd7f2cc12212c501c982d57405eba91f45", func := "pythia/pythialaw12.ArithBits", spec := "arithBits", unfollowed := true, recurses := true, apart := false }
def ArithBitsSaid : Prop := arithBitsRow.holds Try.pinned (OpenSpec.ofChange arithBitsSpec)

/-- ITS FALSE NEIGHBOUR: 'it returns false'. Refute it at one input. -/
def arithBitsWrong : ChangeSpec := { name := "arithBits", fn := fun _ => fun
  | [d1, d2, d3] => { results := [.lit (.bool false)], args := [d1, d2, d3] }
  | _ => none }
def ArithBitsWrongFalsely : Prop := arithBitsRow.holds Try.pinned (OpenSpec.ofChange arithBitsWrong)

/-- 'pythialaw12.ArithDeep': WHATEVER THE INPUT: true; the input reads as it did. -/
def arithDeepSpec : ChangeSpec := { name := "arithDeep", fn := fun _ => fun
  | [d1, d2, d3] => { results := [.lit (.bool true)], args := [d1, d2, d3] }
  | _ => none }
def arithDeepRow : OpenClaim := { program := "ytmgephleogiaoaa", sum := "1963834afb58c32f7063669f1ab26edd7f2cc12212c501c982d57405eba91f45", func := "pythia/pythialaw12.ArithDeep", spec := "arithDeep", unfollowed := true, recurses := true, loops := true, apart := false }
def ArithDeepSaid : Prop := arithDeepRow.holds Try.pinned (OpenSpec.ofChange arithDeepSpec)

/-- ITS FALSE NEIGHBOUR: 'it returns false'. Refute it at one input. -/
def arithDeepWrong : ChangeSpec := { name := "arithDeep", fn := fun _ => fun
  | [d1, d2, d3] => { results := [.lit (.bool false)], args := [d1, d2, d3] }
  | _ => none }
def ArithDeepWrongFalsely : Prop := arithDeepRow.holds Try.pinned (OpenSpec.ofChange arithDeepWrong)

/-- 'pythialaw12.ArithBalls': WHATEVER THE INPUT: true; the input reads as it did. -/
def arithBallsSpec : ChangeSpec := { name := "arithBalls", fn := fun _ => fun
  | [d1, d2] => { results := [.lit (.bool true)], args := [d1, d2] }
  | _ => none }
def arithBallsRow : OpenClaim := { program := "ytmgephleogiaoaa", sum := "1963834afb58c32f7063669f1ab26edd7f2cc12212c501c982d57405eba91f45", func := "pythia/pythialaw12.ArithBalls", spec := "arithBalls", unfollowed := true, recurses := true, loops := true, apart := false }
def ArithBallsSaid : Prop := arithBallsRow.holds Try.pinned (OpenSpec.ofChange arithBallsSpec)

/-- ITS FALSE NEIGHBOUR: 'it returns false'. Refute it at one input. -/
def arithBallsWrong : ChangeSpec := { name := "arithBalls", fn := fun _ => fun
  | [d1, d2] => { results := [.lit (.bool false)], args := [d1, d2] }
  | _ => none }
def ArithBallsWrongFalsely : Prop := arithBallsRow.holds Try.pinned (OpenSpec.ofChange arithBallsWrong)

/- THE SECOND FORM. 'bulk': how many values and letters a reading holds, each counted each time it is reached (what is shared counts as often as it is met; a slice's spare places count too). A statement '..UptoSaid' is the law's where the arguments, and the package variables that the reading takes, are together of bulk at most 1048576: NARROWER than '..Said'. Prove '..Said' where nothing that the law and all that it calls make is longer than what came in: it says more and counts as full. Else prove '..UptoSaid'. A law counts once. -/
mutual
def uptoBulk {H : Type} : DataW H → Nat
  | .lit (.string bytes) => bytes.length + 1
  | .lit _ => 1
  | .nil => 1
  | .ptr d => uptoBulk d + 1
  | .slice elems spare => uptoBulkAll elems + uptoBulkAll spare + 1
  | .agg parts => uptoBulkAll parts + 1
  | .iface _ d => uptoBulk d + 1
  | .map entries => uptoBulkEntries entries + 1
  | .held _ => 1
def uptoBulkAll {H : Type} : List (DataW H) → Nat
  | [] => 0
  | d :: r => uptoBulk d + uptoBulkAll r
def uptoBulkEntries {H : Type} : List (Lit × DataW H) → Nat
  | [] => 0
  | x :: r => uptoBulkEntry x + uptoBulkEntries r
def uptoBulkEntry {H : Type} : Lit × DataW H → Nat
  | (.string bytes, d) => bytes.length + uptoBulk d + 1
  | (_, d) => uptoBulk d + 1
 end
def uptoSmall : (H : Type) → List (DataW H) → Bool := fun _ ds => decide (uptoBulkAll ds ≤ 1048576)
def OpenSpec.upto (s : _root_.Go.ChangeSpec) : _root_.Go.OpenSpec := { _root_.Go.OpenSpec.ofChange s with cond := some uptoSmall }

/-- 'pythialaw12.ArithPlays', WHERE WHAT IT READS IS OF BULK AT MOST 1048576: true; the input reads as it did. -/
def arithPlaysUptoRow : OpenClaim := { program := "ytmgephleogiaoaa", sum := "1963834afb58c32f7063669f1ab26edd7f2cc12212c501c982d57405eba91f45", func := "pythia/pythialaw12.ArithPlays", spec := "arithPlays", unfollowed := true, recurses := true, loops := true, apart := false, narrowed := true }
def ArithPlaysUptoSaid : Prop := arithPlaysUptoRow.holds Try.pinned (OpenSpec.upto arithPlaysSpec)

/-- 'pythialaw12.ArithNumbers', WHERE WHAT IT READS IS OF BULK AT MOST 1048576: true; the input reads as it did. -/
def arithNumbersUptoRow : OpenClaim := { program := "ytmgephleogiaoaa", sum := "1963834afb58c32f7063669f1ab26edd7f2cc12212c501c982d57405eba91f45", func := "pythia/pythialaw12.ArithNumbers", spec := "arithNumbers", unfollowed := true, recurses := true, apart := false, narrowed := true }
def ArithNumbersUptoSaid : Prop := arithNumbersUptoRow.holds Try.pinned (OpenSpec.upto arithNumbersSpec)

/-- 'pythialaw12.ArithRules', WHERE WHAT IT READS IS OF BULK AT MOST 1048576: true; the input reads as it did. -/
def arithRulesUptoRow : OpenClaim := { program := "ytmgephleogiaoaa", sum := "1963834afb58c32f7063669f1ab26edd7f2cc12212c501c982d57405eba91f45", func := "pythia/pythialaw12.ArithRules", spec := "arithRules", unfollowed := true, recurses := true, apart := false, narrowed := true }
def ArithRulesUptoSaid : Prop := arithRulesUptoRow.holds Try.pinned (OpenSpec.upto arithRulesSpec)

/-- 'pythialaw12.ArithBits', WHERE WHAT IT READS IS OF BULK AT MOST 1048576: true; the input reads as it did. -/
def arithBitsUptoRow : OpenClaim := { program := "ytmgephleogiaoaa", sum := "1963834afb58c32f7063669f1ab26edd7f2cc12212c501c982d57405eba91f45", func := "pythia/pythialaw12.ArithBits", spec := "arithBits", unfollowed := true, recurses := true, apart := false, narrowed := true }
def ArithBitsUptoSaid : Prop := arithBitsUptoRow.holds Try.pinned (OpenSpec.upto arithBitsSpec)

/-- 'pythialaw12.ArithDeep', WHERE WHAT IT READS IS OF BULK AT MOST 1048576: true; the input reads as it did. -/
def arithDeepUptoRow : OpenClaim := { program := "ytmgephleogiaoaa", sum := "1963834afb58c32f7063669f1ab26edd7f2cc12212c501c982d57405eba91f45", func := "pythia/pythialaw12.ArithDeep", spec := "arithDeep", unfollowed := true, recurses := true, loops := true, apart := false, narrowed := true }
def ArithDeepUptoSaid : Prop := arithDeepUptoRow.holds Try.pinned (OpenSpec.upto arithDeepSpec)

/-- 'pythialaw12.ArithBalls', WHERE WHAT IT READS IS OF BULK AT MOST 1048576: true; the input reads as it did. -/
def arithBallsUptoRow : OpenClaim := { program := "ytmgephleogiaoaa", sum := "1963834afb58c32f7063669f1ab26edd7f2cc12212c501c982d57405eba91f45", func := "pythia/pythialaw12.ArithBalls", spec := "arithBalls", unfollowed := true, recurses := true, loops := true, apart := false, narrowed := true }
def ArithBallsUptoSaid : Prop := arithBallsUptoRow.holds Try.pinned (OpenSpec.upto arithBallsSpec)

end Rows
end Go.Proofs.Ytmgephleogiaoaa

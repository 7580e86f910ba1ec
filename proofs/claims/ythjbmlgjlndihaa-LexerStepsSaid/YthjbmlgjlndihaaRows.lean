/-
  No cell of these rows narrows 'for every input' (looked for: loops, veiled, ifaces, maps, wideKeys, modest, calm, conditions, laid).
  DERIVED. THE GIVEN ROWS OF THIS SEAT. 6 by the template 'for every input the law returns true; each argument reads behind the call as it read before'; 0 by the template 'total and deterministic' (their statements: YthjbmlgjlndihaaTotals.lean).
  GIVEN WITH THE SEED: the statements are not yours to turn. If you find one false, say at which input.
  Laid BY PROGRAM, IN A SANDBOX (cutbox-rows.mjs): the forced cells as the released guide's own fill.sh prints them over the translation 640fef854ebdacaa… (all of the seat's roots in one cut). By AI agents, Wed Nov 11 2026. No macro, syntax, notation, axiom, sorry.
-/
import Derived.Test.YthjbmlgjlndihaaChecked
import GoSem.Claim
import GoSem.ClaimJoined
import GoSem.ClaimMapViews
import Derived.JoinedTies
import Derived.KernelRfl
namespace Go.Proofs.Ythjbmlgjlndihaa
/- THE CELL 'sum', in the pinned program and in every row, IS THE sha256 OF THE DUMP (.gsa) THAT YthjbmlgjlndihaaProg.lean LOADS. Nothing in Lean hashes anything: it is a label: what it is worth is what the hold of that sum in a sandbox is worth. -/
noncomputable def Try.pinned : Pinned := { name := "ythjbmlgjlndihaa", sum := "640fef854ebdacaa892613210be83167ae908f04a1e0c09d69c4287b74043b38", checked := Try.checked }
namespace Rows
def none {H : Type} : Left H := { results := [], args := [] }

/-- 'wayfarerlaw08.LexerSteps': WHATEVER THE INPUT: true; the input reads as it did. -/
def lexerStepsSpec : ChangeSpec := { name := "lexerSteps", fn := fun _ => fun
  | [d1, d2] => { results := [.lit (.bool true)], args := [d1, d2] }
  | _ => none }
def lexerStepsRow : OpenClaim := { program := "ythjbmlgjlndihaa", sum := "640fef854ebdacaa892613210be83167ae908f04a1e0c09d69c4287b74043b38", func := "wayfarer/wayfarerlaw08.LexerSteps", spec := "lexerSteps", inPlace := ["math/bits.Add64"], unfollowed := true, recurses := true, apart := false }
def LexerStepsSaid : Prop := lexerStepsRow.holds Try.pinned (OpenSpec.ofChange lexerStepsSpec)

/-- ITS FALSE NEIGHBOUR: 'it returns false'. Refute it at one input. -/
def lexerStepsWrong : ChangeSpec := { name := "lexerSteps", fn := fun _ => fun
  | [d1, d2] => { results := [.lit (.bool false)], args := [d1, d2] }
  | _ => none }
def LexerStepsWrongFalsely : Prop := lexerStepsRow.holds Try.pinned (OpenSpec.ofChange lexerStepsWrong)

/-- 'wayfarerlaw08.LexerWhole': WHATEVER THE INPUT: true; the input reads as it did. -/
def lexerWholeSpec : ChangeSpec := { name := "lexerWhole", fn := fun _ => fun
  | [d] => { results := [.lit (.bool true)], args := [d] }
  | _ => none }
def lexerWholeRow : OpenClaim := { program := "ythjbmlgjlndihaa", sum := "640fef854ebdacaa892613210be83167ae908f04a1e0c09d69c4287b74043b38", func := "wayfarer/wayfarerlaw08.LexerWhole", spec := "lexerWhole", inPlace := ["math/bits.Add64"], unfollowed := true, recurses := true, apart := false }
def LexerWholeSaid : Prop := lexerWholeRow.holds Try.pinned (OpenSpec.ofChange lexerWholeSpec)

/-- ITS FALSE NEIGHBOUR: 'it returns false'. Refute it at one input. -/
def lexerWholeWrong : ChangeSpec := { name := "lexerWhole", fn := fun _ => fun
  | [d] => { results := [.lit (.bool false)], args := [d] }
  | _ => none }
def LexerWholeWrongFalsely : Prop := lexerWholeRow.holds Try.pinned (OpenSpec.ofChange lexerWholeWrong)

/-- 'wayfarerlaw08.LexerBlanks': WHATEVER THE INPUT: true; the input reads as it did. -/
def lexerBlanksSpec : ChangeSpec := { name := "lexerBlanks", fn := fun _ => fun
  | [d1, d2, d3] => { results := [.lit (.bool true)], args := [d1, d2, d3] }
  | _ => none }
def lexerBlanksRow : OpenClaim := { program := "ythjbmlgjlndihaa", sum := "640fef854ebdacaa892613210be83167ae908f04a1e0c09d69c4287b74043b38", func := "wayfarer/wayfarerlaw08.LexerBlanks", spec := "lexerBlanks", inPlace := ["math/bits.Add64"], unfollowed := true, recurses := true, apart := false }
def LexerBlanksSaid : Prop := lexerBlanksRow.holds Try.pinned (OpenSpec.ofChange lexerBlanksSpec)

/-- ITS FALSE NEIGHBOUR: 'it returns false'. Refute it at one input. -/
def lexerBlanksWrong : ChangeSpec := { name := "lexerBlanks", fn := fun _ => fun
  | [d1, d2, d3] => { results := [.lit (.bool false)], args := [d1, d2, d3] }
  | _ => none }
def LexerBlanksWrongFalsely : Prop := lexerBlanksRow.holds Try.pinned (OpenSpec.ofChange lexerBlanksWrong)

/-- 'wayfarerlaw08.LexerTexts': WHATEVER THE INPUT: true; the input reads as it did. -/
def lexerTextsSpec : ChangeSpec := { name := "lexerTexts", fn := fun _ => fun
  | [d1, d2] => { results := [.lit (.bool true)], args := [d1, d2] }
  | _ => none }
def lexerTextsRow : OpenClaim := { program := "ythjbmlgjlndihaa", sum := "640fef854ebdacaa892613210be83167ae908f04a1e0c09d69c4287b74043b38", func := "wayfarer/wayfarerlaw08.LexerTexts", spec := "lexerTexts", inPlace := ["math/bits.Add64"], unfollowed := true, recurses := true, apart := false }
def LexerTextsSaid : Prop := lexerTextsRow.holds Try.pinned (OpenSpec.ofChange lexerTextsSpec)

/-- ITS FALSE NEIGHBOUR: 'it returns false'. Refute it at one input. -/
def lexerTextsWrong : ChangeSpec := { name := "lexerTexts", fn := fun _ => fun
  | [d1, d2] => { results := [.lit (.bool false)], args := [d1, d2] }
  | _ => none }
def LexerTextsWrongFalsely : Prop := lexerTextsRow.holds Try.pinned (OpenSpec.ofChange lexerTextsWrong)

/-- 'wayfarerlaw08.LexerNumbers': WHATEVER THE INPUT: true; the input reads as it did. -/
def lexerNumbersSpec : ChangeSpec := { name := "lexerNumbers", fn := fun _ => fun
  | [d1, d2] => { results := [.lit (.bool true)], args := [d1, d2] }
  | _ => none }
def lexerNumbersRow : OpenClaim := { program := "ythjbmlgjlndihaa", sum := "640fef854ebdacaa892613210be83167ae908f04a1e0c09d69c4287b74043b38", func := "wayfarer/wayfarerlaw08.LexerNumbers", spec := "lexerNumbers", inPlace := ["math/bits.Add64"], unfollowed := true, recurses := true, apart := false }
def LexerNumbersSaid : Prop := lexerNumbersRow.holds Try.pinned (OpenSpec.ofChange lexerNumbersSpec)

/-- ITS FALSE NEIGHBOUR: 'it returns false'. Refute it at one input. -/
def lexerNumbersWrong : ChangeSpec := { name := "lexerNumbers", fn := fun _ => fun
  | [d1, d2] => { results := [.lit (.bool false)], args := [d1, d2] }
  | _ => none }
def LexerNumbersWrongFalsely : Prop := lexerNumbersRow.holds Try.pinned (OpenSpec.ofChange lexerNumbersWrong)

/-- 'wayfarerlaw08.LexerJoins': WHATEVER THE INPUT: true; the input reads as it did. -/
def lexerJoinsSpec : ChangeSpec := { name := "lexerJoins", fn := fun _ => fun
  | [d1, d2] => { results := [.lit (.bool true)], args := [d1, d2] }
  | _ => none }
def lexerJoinsRow : OpenClaim := { program := "ythjbmlgjlndihaa", sum := "640fef854ebdacaa892613210be83167ae908f04a1e0c09d69c4287b74043b38", func := "wayfarer/wayfarerlaw08.LexerJoins", spec := "lexerJoins", inPlace := ["math/bits.Add64"], unfollowed := true, recurses := true, apart := false }
def LexerJoinsSaid : Prop := lexerJoinsRow.holds Try.pinned (OpenSpec.ofChange lexerJoinsSpec)

/-- ITS FALSE NEIGHBOUR: 'it returns false'. Refute it at one input. -/
def lexerJoinsWrong : ChangeSpec := { name := "lexerJoins", fn := fun _ => fun
  | [d1, d2] => { results := [.lit (.bool false)], args := [d1, d2] }
  | _ => none }
def LexerJoinsWrongFalsely : Prop := lexerJoinsRow.holds Try.pinned (OpenSpec.ofChange lexerJoinsWrong)

/- THE SECOND FORM. 'bulk': how many values and letters a reading holds, each counted each time it is reached (what is shared counts as often as it is met; a slice's spare places count too). A statement '..UptoSaid' is the law's where the arguments, and the package variables that the reading takes, are together of bulk at most 1048576: NARROWER than '..Said'. Prove '..Said' where nothing that the law and all that it calls make is longer than what came in: it says more and counts as full. Else prove '..UptoSaid'. A law counts once. -/
mutual
def uptoBulk {H : Type} : DataW H → Nat
  | .lit (.string bytes) => bytes.length + 1
  | .lit _ => 1
  | .nil => 1
  | .ptr d => uptoBulk d + 1
  | .slice elems spare => uptoBulkAll elems + uptoBulkAll spare + 1
  | .agg parts => uptoBulkAll parts + 1
  | .iface _ d => uptoBulk d + 1
  | .map entries => uptoBulkEntries entries + 1
  | .held _ => 1
def uptoBulkAll {H : Type} : List (DataW H) → Nat
  | [] => 0
  | d :: r => uptoBulk d + uptoBulkAll r
def uptoBulkEntries {H : Type} : List (Lit × DataW H) → Nat
  | [] => 0
  | x :: r => uptoBulkEntry x + uptoBulkEntries r
def uptoBulkEntry {H : Type} : Lit × DataW H → Nat
  | (.string bytes, d) => bytes.length + uptoBulk d + 1
  | (_, d) => uptoBulk d + 1
 end
def uptoSmall : (H : Type) → List (DataW H) → Bool := fun _ ds => decide (uptoBulkAll ds ≤ 1048576)
def OpenSpec.upto (s : _root_.Go.ChangeSpec) : _root_.Go.OpenSpec := { _root_.Go.OpenSpec.ofChange s with cond := some uptoSmall }

/-- 'wayfarerlaw08.LexerSteps', WHERE WHAT IT READS IS OF BULK AT MOST 1048576: true; the input reads as it did. -/
def lexerStepsUptoRow : OpenClaim := { program := "ythjbmlgjlndihaa", sum := "640fef854ebdacaa892613210be83167ae908f04a1e0c09d69c4287b74043b38", func := "wayfarer/wayfarerlaw08.LexerSteps", spec := "lexerSteps", inPlace := ["math/bits.Add64"], unfollowed := true, recurses := true, apart := false, narrowed := true }
def LexerStepsUptoSaid : Prop := lexerStepsUptoRow.holds Try.pinned (OpenSpec.upto lexerStepsSpec)

/-- 'wayfarerlaw08.LexerWhole', WHERE WHAT IT READS IS OF BULK AT MOST 1048576: true; the input reads as it did. -/
def lexerWholeUptoRow : OpenClaim := { program := "ythjbmlgjlndihaa", sum := "640fef854ebdacaa892613210be83167ae908f04a1e0c09d69c4287b74043b38", func := "wayfarer/wayfarerlaw08.LexerWhole", spec := "lexerWhole", inPlace := ["math/bits.Add64"], unfollowed := true, recurses := true, apart := false, narrowed := true }
def LexerWholeUptoSaid : Prop := lexerWholeUptoRow.holds Try.pinned (OpenSpec.upto lexerWholeSpec)

/-- 'wayfarerlaw08.LexerBlanks', WHERE WHAT IT READS IS OF BULK AT MOST 1048576: true; the input reads as it did. -/
def lexerBlanksUptoRow : OpenClaim := { program := "ythjbmlgjlndihaa", sum := "640fef854ebdacaa892613210be83167ae908f04a1e0c09d69c4287b74043b38", func := "wayfarer/wayfarerlaw08.LexerBlanks", spec := "lexerBlanks", inPlace := ["math/bits.Add64"], unfollowed := true, recurses := true, apart := false, narrowed := true }
def LexerBlanksUptoSaid : Prop := lexerBlanksUptoRow.holds Try.pinned (OpenSpec.upto lexerBlanksSpec)

/-- 'wayfarerlaw08.LexerTexts', WHERE WHAT IT READS IS OF BULK AT MOST 1048576: true; the input reads as it did. -/
def lexerTextsUptoRow : OpenClaim := { program := "ythjbmlgjlndihaa", sum := "640fef854ebdacaa892613210be83167ae908f04a1e0c09d69c4287b74043b38", func := "wayfarer/wayfarerlaw08.LexerTexts", spec := "lexerTexts", inPlace := ["math/bits.Add64"], unfollowed := true, recurses := true, apart := false, narrowed := true }
def LexerTextsUptoSaid : Prop := lexerTextsUptoRow.holds Try.pinned (OpenSpec.upto lexerTextsSpec)

/-- 'wayfarerlaw08.LexerNumbers', WHERE WHAT IT READS IS OF BULK AT MOST 1048576: true; the input reads as it did. -/
def lexerNumbersUptoRow : OpenClaim := { program := "ythjbmlgjlndihaa", sum := "640fef854ebdacaa892613210be83167ae908f04a1e0c09d69c4287b74043b38", func := "wayfarer/wayfarerlaw08.LexerNumbers", spec := "lexerNumbers", inPlace := ["math/bits.Add64"], unfollowed := true, recurses := true, apart := false, narrowed := true }
def LexerNumbersUptoSaid : Prop := lexerNumbersUptoRow.holds Try.pinned (OpenSpec.upto lexerNumbersSpec)

/-- 'wayfarerlaw08.LexerJoins', WHERE WHAT IT READS IS OF BULK AT MOST 1048576: true; the input reads as it did. -/
def lexerJoinsUptoRow : OpenClaim := { program := "ythjbmlgjlndihaa", sum := "640fef854ebdacaa892613210be83167ae908f04a1e0c09d69c4287b74043b38", func := "wayfarer/wayfarerlaw08.LexerJoins", spec := "lexerJoins", inPlace := ["math/bits.Add64"], unfollowed := true, recurses := true, apart := false, narrowed := true }
def LexerJoinsUptoSaid : Prop := lexerJoinsUptoRow.holds Try.pinned (OpenSpec.upto lexerJoinsSpec)

end Rows
end Go.Proofs.Ythjbmlgjlndihaa

/-
  NARROWER THAN 'FOR EVERY INPUT', by the rows' own cells (each row's printed sentence says how): GraphChecks: loops · GraphNames: loops · GraphFinds: loops · GraphSets: loops · GraphHurt: loops · GraphTwo: loops.
  DERIVED. THE GIVEN ROWS OF THIS SEAT. 6 by the template 'for every input the law returns true; each argument reads behind the call as it read before'; 0 by the template 'total and deterministic' (their statements: YtciipggccjiaiaaTotals.lean).
  GIVEN WITH THE SEED: the statements are not yours to turn. If you find one false, say at which input.
  Laid BY PROGRAM, IN A SANDBOX (cutbox-rows.mjs): the forced cells as the released guide's own fill.sh prints them over the translation c9f7e6bee130193f… (all of the seat's roots in one cut). By AI agents, Wed Nov 11 2026. No macro, syntax, notation, axiom, sorry.
-/
import Derived.Test.YtciipggccjiaiaaChecked
import GoSem.Claim
import GoSem.ClaimJoined
import GoSem.ClaimMapViews
import Derived.JoinedTies
import Derived.KernelRfl
namespace Go.Proofs.Ytciipggccjiaiaa
/- THE CELL 'sum', in the pinned program and in every row, IS THE sha256 OF THE DUMP (.gsa) THAT YtciipggccjiaiaaProg.lean LOADS. Nothing in Lean hashes anything: it is a label: what it is worth is what the hold of that sum in a sandbox is worth. -/
noncomputable def Try.pinned : Pinned := { name := "ytciipggccjiaiaa", sum := "c9f7e6bee130193f2cfb97cb01cd392fc670a1d1f15fd457f05ca5e8cb32faa5", checked := Try.checked }
namespace Rows
def none {H : Type} : Left H := { results := [], args := [] }

/-- 'wayfarerlaw05.GraphChecks': WHATEVER THE INPUT: true; the input reads as it did. -/
def graphChecksSpec : ChangeSpec := { name := "graphChecks", fn := fun _ => fun
  | [d] => { results := [.lit (.bool true)], args := [d] }
  | _ => none }
def graphChecksRow : OpenClaim := { program := "ytciipggccjiaiaa", sum := "c9f7e6bee130193f2cfb97cb01cd392fc670a1d1f15fd457f05ca5e8cb32faa5", func := "wayfarer/wayfarerlaw05.GraphChecks", spec := "graphChecks", unfollowed := true, recurses := true, loops := true, apart := false }
def GraphChecksSaid : Prop := graphChecksRow.holds Try.pinned (OpenSpec.ofChange graphChecksSpec)

/-- ITS FALSE NEIGHBOUR: 'it returns false'. Refute it at one input. -/
def graphChecksWrong : ChangeSpec := { name := "graphChecks", fn := fun _ => fun
  | [d] => { results := [.lit (.bool false)], args := [d] }
  | _ => none }
def GraphChecksWrongFalsely : Prop := graphChecksRow.holds Try.pinned (OpenSpec.ofChange graphChecksWrong)

/-- 'wayfarerlaw05.GraphNames': WHATEVER THE INPUT: true; the input reads as it did. -/
def graphNamesSpec : ChangeSpec := { name := "graphNames", fn := fun _ => fun
  | [d1, d2] => { results := [.lit (.bool true)], args := [d1, d2] }
  | _ => none }
def graphNamesRow : OpenClaim := { program := "ytciipggccjiaiaa", sum := "c9f7e6bee130193f2cfb97cb01cd392fc670a1d1f15fd457f05ca5e8cb32faa5", func := "wayfarer/wayfarerlaw05.GraphNames", spec := "graphNames", unfollowed := true, recurses := true, loops := true, apart := false }
def GraphNamesSaid : Prop := graphNamesRow.holds Try.pinned (OpenSpec.ofChange graphNamesSpec)

/-- ITS FALSE NEIGHBOUR: 'it returns false'. Refute it at one input. -/
def graphNamesWrong : ChangeSpec := { name := "graphNames", fn := fun _ => fun
  | [d1, d2] => { results := [.lit (.bool false)], args := [d1, d2] }
  | _ => none }
def GraphNamesWrongFalsely : Prop := graphNamesRow.holds Try.pinned (OpenSpec.ofChange graphNamesWrong)

/-- 'wayfarerlaw05.GraphFinds': WHATEVER THE INPUT: true; the input reads as it did. -/
def graphFindsSpec : ChangeSpec := { name := "graphFinds", fn := fun _ => fun
  | [d1, d2, d3, d4] => { results := [.lit (.bool true)], args := [d1, d2, d3, d4] }
  | _ => none }
def graphFindsRow : OpenClaim := { program := "ytciipggccjiaiaa", sum := "c9f7e6bee130193f2cfb97cb01cd392fc670a1d1f15fd457f05ca5e8cb32faa5", func := "wayfarer/wayfarerlaw05.GraphFinds", spec := "graphFinds", unfollowed := true, recurses := true, loops := true, apart := false }
def GraphFindsSaid : Prop := graphFindsRow.holds Try.pinned (OpenSpec.ofChange graphFindsSpec)

/-- ITS FALSE NEIGHBOUR: 'it returns false'. Refute it at one input. -/
def graphFindsWrong : ChangeSpec := { name := "graphFinds", fn := fun _ => fun
  | [d1, d2, d3, d4] => { results := [.lit (.bool false)], args := [d1, d2, d3, d4] }
  | _ => none }
def GraphFindsWrongFalsely : Prop := graphFindsRow.holds Try.pinned (OpenSpec.ofChange graphFindsWrong)

/-- 'wayfarerlaw05.GraphSets': WHATEVER THE INPUT: true; the input reads as it did. -/
def graphSetsSpec : ChangeSpec := { name := "graphSets", fn := fun _ => fun
  | [d1, d2, d3, d4, d5, d6] => { results := [.lit (.bool true)], args := [d1, d2, d3, d4, d5, d6] }
  | _ => none }
def graphSetsRow : OpenClaim := { program := "ytciipggccjiaiaa", sum := "c9f7e6bee130193f2cfb97cb01cd392fc670a1d1f15fd457f05ca5e8cb32faa5", func := "wayfarer/wayfarerlaw05.GraphSets", spec := "graphSets", unfollowed := true, recurses := true, loops := true, apart := false }
def GraphSetsSaid : Prop := graphSetsRow.holds Try.pinned (OpenSpec.ofChange graphSetsSpec)

/-- ITS FALSE NEIGHBOUR: 'it returns false'. Refute it at one input. -/
def graphSetsWrong : ChangeSpec := { name := "graphSets", fn := fun _ => fun
  | [d1, d2, d3, d4, d5, d6] => { results := [.lit (.bool false)], args := [d1, d2, d3, d4, d5, d6] }
  | _ => none }
def GraphSetsWrongFalsely : Prop := graphSetsRow.holds Try.pinned (OpenSpec.ofChange graphSetsWrong)

/-- 'wayfarerlaw05.GraphHurt': WHATEVER THE INPUT: true; the input reads as it did. -/
def graphHurtSpec : ChangeSpec := { name := "graphHurt", fn := fun _ => fun
  | [d1, d2] => { results := [.lit (.bool true)], args := [d1, d2] }
  | _ => none }
def graphHurtRow : OpenClaim := { program := "ytciipggccjiaiaa", sum := "c9f7e6bee130193f2cfb97cb01cd392fc670a1d1f15fd457f05ca5e8cb32faa5", func := "wayfarer/wayfarerlaw05.GraphHurt", spec := "graphHurt", unfollowed := true, recurses := true, loops := true, apart := false }
def GraphHurtSaid : Prop := graphHurtRow.holds Try.pinned (OpenSpec.ofChange graphHurtSpec)

/-- ITS FALSE NEIGHBOUR: 'it returns false'. Refute it at one input. -/
def graphHurtWrong : ChangeSpec := { name := "graphHurt", fn := fun _ => fun
  | [d1, d2] => { results := [.lit (.bool false)], args := [d1, d2] }
  | _ => none }
def GraphHurtWrongFalsely : Prop := graphHurtRow.holds Try.pinned (OpenSpec.ofChange graphHurtWrong)

/-- 'wayfarerlaw05.GraphTwo': WHATEVER THE INPUT: true; the input reads as it did. -/
def graphTwoSpec : ChangeSpec := { name := "graphTwo", fn := fun _ => fun
  | [d1, d2, d3, d4, d5, d6] => { results := [.lit (.bool true)], args := [d1, d2, d3, d4, d5, d6] }
  | _ => none }
def graphTwoRow : OpenClaim := { program := "ytciipggccjiaiaa", sum := "c9f7e6bee130193f2cfb97cb01cd392fc670a1d1f15fd457f05ca5e8cb32faa5", func := "wayfarer/wayfarerlaw05.GraphTwo", spec := "graphTwo", unfollowed := true, recurses := true, loops := true, apart := false }
def GraphTwoSaid : Prop := graphTwoRow.holds Try.pinned (OpenSpec.ofChange graphTwoSpec)

/-- ITS FALSE NEIGHBOUR: 'it returns false'. Refute it at one input. -/
def graphTwoWrong : ChangeSpec := { name := "graphTwo", fn := fun _ => fun
  | [d1, d2, d3, d4, d5, d6] => { results := [.lit (.bool false)], args := [d1, d2, d3, d4, d5, d6] }
  | _ => none }
def GraphTwoWrongFalsely : Prop := graphTwoRow.holds Try.pinned (OpenSpec.ofChange graphTwoWrong)

/- THE SECOND FORM. 'bulk': how many values and letters a reading holds, each counted each time it is reached (what is shared counts as often as it is met; a slice's spare places count too). A statement '..UptoSaid' is the law's where the arguments, and the package variables that the reading takes, are together of bulk at most 1048576: NARROWER than '..Said'. Prove '..Said' where nothing that the law and all that it calls make is longer than what came in: it says more and counts as full. Else prove '..UptoSaid'. A law counts once. -/
mutual
def uptoBulk {H : Type} : DataW H → Nat
  | .lit (.string bytes) => bytes.length + 1
  | .lit _ => 1
  | .nil => 1
  | .ptr d => uptoBulk d + 1
  | .slice elems spare => uptoBulkAll elems + uptoBulkAll spare + 1
  | .agg parts => uptoBulkAll parts + 1
  | .iface _ d => uptoBulk d + 1
  | .map entries => uptoBulkEntries entries + 1
  | .held _ => 1
def uptoBulkAll {H : Type} : List (DataW H) → Nat
  | [] => 0
  | d :: r => uptoBulk d + uptoBulkAll r
def uptoBulkEntries {H : Type} : List (Lit × DataW H) → Nat
  | [] => 0
  | x :: r => uptoBulkEntry x + uptoBulkEntries r
def uptoBulkEntry {H : Type} : Lit × DataW H → Nat
  | (.string bytes, d) => bytes.length + uptoBulk d + 1
  | (_, d) => uptoBulk d + 1
 end
def uptoSmall : (H : Type) → List (DataW H) → Bool := fun _ ds => decide (uptoBulkAll ds ≤ 1048576)
def OpenSpec.upto (s : _root_.Go.ChangeSpec) : _root_.Go.OpenSpec := { _root_.Go.OpenSpec.ofChange s with cond := some uptoSmall }

/-- 'wayfarerlaw05.GraphChecks', WHERE WHAT IT READS IS OF BULK AT MOST 1048576: true; the input reads as it did. -/
def graphChecksUptoRow : OpenClaim := { program := "ytciipggccjiaiaa", sum := "c9f7e6bee130193f2cfb97cb01cd392fc670a1d1f15fd457f05ca5e8cb32faa5", func := "wayfarer/wayfarerlaw05.GraphChecks", spec := "graphChecks", unfollowed := true, recurses := true, loops := true, apart := false, narrowed := true }
def GraphChecksUptoSaid : Prop := graphChecksUptoRow.holds Try.pinned (OpenSpec.upto graphChecksSpec)

/-- 'wayfarerlaw05.GraphNames', WHERE WHAT IT READS IS OF BULK AT MOST 1048576: true; the input reads as it did. -/
def graphNamesUptoRow : OpenClaim := { program := "ytciipggccjiaiaa", sum := "c9f7e6bee130193f2cfb97cb01cd392fc670a1d1f15fd457f05ca5e8cb32faa5", func := "wayfarer/wayfarerlaw05.GraphNames", spec := "graphNames", unfollowed := true, recurses := true, loops := true, apart := false, narrowed := true }
def GraphNamesUptoSaid : Prop := graphNamesUptoRow.holds Try.pinned (OpenSpec.upto graphNamesSpec)

/-- 'wayfarerlaw05.GraphFinds', WHERE WHAT IT READS IS OF BULK AT MOST 1048576: true; the input reads as it did. -/
def graphFindsUptoRow : OpenClaim := { program := "ytciipggccjiaiaa", sum := "c9f7e6bee130193f2cfb97cb01cd392fc670a1d1f15fd457f05ca5e8cb32faa5", func := "wayfarer/wayfarerlaw05.GraphFinds", spec := "graphFinds", unfollowed := true, recurses := true, loops := true, apart := false, narrowed := true }
def GraphFindsUptoSaid : Prop := graphFindsUptoRow.holds Try.pinned (OpenSpec.upto graphFindsSpec)

/-- 'wayfarerlaw05.GraphSets', WHERE WHAT IT READS IS OF BULK AT MOST 1048576: true; the input reads as it did. -/
def graphSetsUptoRow : OpenClaim := { program := "ytciipggccjiaiaa", sum := "c9f7e6bee130193f2cfb97cb01cd392fc670a1d1f15fd457f05ca5e8cb32faa5", func := "wayfarer/wayfarerlaw05.GraphSets", spec := "graphSets", unfollowed := true, recurses := true, loops := true, apart := false, narrowed := true }
def GraphSetsUptoSaid : Prop := graphSetsUptoRow.holds Try.pinned (OpenSpec.upto graphSetsSpec)

/-- 'wayfarerlaw05.GraphHurt', WHERE WHAT IT READS IS OF BULK AT MOST 1048576: true; the input reads as it did. -/
def graphHurtUptoRow : OpenClaim := { program := "ytciipggccjiaiaa", sum := "c9f7e6bee130193f2cfb97cb01cd392fc670a1d1f15fd457f05ca5e8cb32faa5", func := "wayfarer/wayfarerlaw05.GraphHurt", spec := "graphHurt", unfollowed := true, recurses := true, loops := true, apart := false, narrowed := true }
def GraphHurtUptoSaid : Prop := graphHurtUptoRow.holds Try.pinned (OpenSpec.upto graphHurtSpec)

/-- 'wayfarerlaw05.GraphTwo', WHERE WHAT IT READS IS OF BULK AT MOST 1048576: true; the input reads as it did. -/
def graphTwoUptoRow : OpenClaim := { program := "ytciipggccjiaiaa", sum := "c9f7e6bee130193f2cfb97cb01cd392fc670a1d1f15fd457f05ca5e8cb32faa5", func := "wayfarer/wayfarerlaw05.GraphTwo", spec := "graphTwo", unfollowed := true, recurses := true, loops := true, apart := false, narrowed := true }
def GraphTwoUptoSaid : Prop := graphTwoUptoRow.holds Try.pinned (OpenSpec.upto graphTwoSpec)

end Rows
end Go.Proofs.Ytciipggccjiaiaa

/-
  NARROWER THAN 'FOR EVERY INPUT', by the rows' own cells (each row's printed sentence says how): PredTests: loops · PredNegates: loops · PredOthers: loops · PredOrder: loops · PredSets: loops · PredJoins: loops · PredRanges: loops.
  DERIVED. THE GIVEN ROWS OF THIS SEAT. 7 by the template 'for every input the law returns true; each argument reads behind the call as it read before'; 0 by the template 'total and deterministic' (their statements: YtiiccefnfepccaaTotals.lean).
  GIVEN WITH THE SEED: the statements are not yours to turn. If you find one false, say at which input.
  Laid BY PROGRAM, IN A SANDBOX (cutbox-rows.mjs): the forced cells as the released guide's own fill.sh prints them over the translation 759080b806d18da4… (all of the seat's roots in one cut). By AI agents, Wed Nov 11 2026. No macro, syntax, notation, axiom, sorry.
-/
import Derived.Test.YtiiccefnfepccaaChecked
import GoSem.Claim
import GoSem.ClaimJoined
import GoSem.ClaimMapViews
import Derived.JoinedTies
import Derived.KernelRfl
namespace Go.Proofs.Ytiiccefnfepccaa
/- THE CELL 'sum', in the pinned program and in every row, IS THE sha256 OF THE DUMP (.gsa) THAT YtiiccefnfepccaaProg.lean LOADS. Nothing in Lean hashes anything: it is a label: what it is worth is what the hold of that sum in a sandbox is worth. -/
noncomputable def Try.pinned : Pinned := { name := "ytiiccefnfepccaa", sum := "759080b806d18da4f9b3d22fd292646167d506120bc0a8011e2abd1dea8d7ae6", checked := Try.checked }
namespace Rows
def none {H : Type} : Left H := { results := [], args := [] }

/-- 'wayfarerlaw09.PredTests': WHATEVER THE INPUT: true; the input reads as it did. -/
def predTestsSpec : ChangeSpec := { name := "predTests", fn := fun _ => fun
  | [d1, d2] => { results := [.lit (.bool true)], args := [d1, d2] }
  | _ => none }
def predTestsRow : OpenClaim := { program := "ytiiccefnfepccaa", sum := "759080b806d18da4f9b3d22fd292646167d506120bc0a8011e2abd1dea8d7ae6", func := "wayfarer/wayfarerlaw09.PredTests", spec := "predTests", unfollowed := true, recurses := true, loops := true, apart := false }
def PredTestsSaid : Prop := predTestsRow.holds Try.pinned (OpenSpec.ofChange predTestsSpec)

/-- ITS FALSE NEIGHBOUR: 'it returns false'. Refute it at one input. -/
def predTestsWrong : ChangeSpec := { name := "predTests", fn := fun _ => fun
  | [d1, d2] => { results := [.lit (.bool false)], args := [d1, d2] }
  | _ => none }
def PredTestsWrongFalsely : Prop := predTestsRow.holds Try.pinned (OpenSpec.ofChange predTestsWrong)

/-- 'wayfarerlaw09.PredNegates': WHATEVER THE INPUT: true; the input reads as it did. -/
def predNegatesSpec : ChangeSpec := { name := "predNegates", fn := fun _ => fun
  | [d] => { results := [.lit (.bool true)], args := [d] }
  | _ => none }
def predNegatesRow : OpenClaim := { program := "ytiiccefnfepccaa", sum := "759080b806d18da4f9b3d22fd292646167d506120bc0a8011e2abd1dea8d7ae6", func := "wayfarer/wayfarerlaw09.PredNegates", spec := "predNegates", unfollowed := true, recurses := true, loops := true, apart := false }
def PredNegatesSaid : Prop := predNegatesRow.holds Try.pinned (OpenSpec.ofChange predNegatesSpec)

/-- ITS FALSE NEIGHBOUR: 'it returns false'. Refute it at one input. -/
def predNegatesWrong : ChangeSpec := { name := "predNegates", fn := fun _ => fun
  | [d] => { results := [.lit (.bool false)], args := [d] }
  | _ => none }
def PredNegatesWrongFalsely : Prop := predNegatesRow.holds Try.pinned (OpenSpec.ofChange predNegatesWrong)

/-- 'wayfarerlaw09.PredOthers': WHATEVER THE INPUT: true; the input reads as it did. -/
def predOthersSpec : ChangeSpec := { name := "predOthers", fn := fun _ => fun
  | [d1, d2] => { results := [.lit (.bool true)], args := [d1, d2] }
  | _ => none }
def predOthersRow : OpenClaim := { program := "ytiiccefnfepccaa", sum := "759080b806d18da4f9b3d22fd292646167d506120bc0a8011e2abd1dea8d7ae6", func := "wayfarer/wayfarerlaw09.PredOthers", spec := "predOthers", unfollowed := true, recurses := true, loops := true, apart := false }
def PredOthersSaid : Prop := predOthersRow.holds Try.pinned (OpenSpec.ofChange predOthersSpec)

/-- ITS FALSE NEIGHBOUR: 'it returns false'. Refute it at one input. -/
def predOthersWrong : ChangeSpec := { name := "predOthers", fn := fun _ => fun
  | [d1, d2] => { results := [.lit (.bool false)], args := [d1, d2] }
  | _ => none }
def PredOthersWrongFalsely : Prop := predOthersRow.holds Try.pinned (OpenSpec.ofChange predOthersWrong)

/-- 'wayfarerlaw09.PredOrder': WHATEVER THE INPUT: true; the input reads as it did. -/
def predOrderSpec : ChangeSpec := { name := "predOrder", fn := fun _ => fun
  | [d1, d2, d3] => { results := [.lit (.bool true)], args := [d1, d2, d3] }
  | _ => none }
def predOrderRow : OpenClaim := { program := "ytiiccefnfepccaa", sum := "759080b806d18da4f9b3d22fd292646167d506120bc0a8011e2abd1dea8d7ae6", func := "wayfarer/wayfarerlaw09.PredOrder", spec := "predOrder", unfollowed := true, recurses := true, loops := true, apart := false }
def PredOrderSaid : Prop := predOrderRow.holds Try.pinned (OpenSpec.ofChange predOrderSpec)

/-- ITS FALSE NEIGHBOUR: 'it returns false'. Refute it at one input. -/
def predOrderWrong : ChangeSpec := { name := "predOrder", fn := fun _ => fun
  | [d1, d2, d3] => { results := [.lit (.bool false)], args := [d1, d2, d3] }
  | _ => none }
def PredOrderWrongFalsely : Prop := predOrderRow.holds Try.pinned (OpenSpec.ofChange predOrderWrong)

/-- 'wayfarerlaw09.PredSets': WHATEVER THE INPUT: true; the input reads as it did. -/
def predSetsSpec : ChangeSpec := { name := "predSets", fn := fun _ => fun
  | [d1, d2] => { results := [.lit (.bool true)], args := [d1, d2] }
  | _ => none }
def predSetsRow : OpenClaim := { program := "ytiiccefnfepccaa", sum := "759080b806d18da4f9b3d22fd292646167d506120bc0a8011e2abd1dea8d7ae6", func := "wayfarer/wayfarerlaw09.PredSets", spec := "predSets", unfollowed := true, recurses := true, loops := true, apart := false }
def PredSetsSaid : Prop := predSetsRow.holds Try.pinned (OpenSpec.ofChange predSetsSpec)

/-- ITS FALSE NEIGHBOUR: 'it returns false'. Refute it at one input. -/
def predSetsWrong : ChangeSpec := { name := "predSets", fn := fun _ => fun
  | [d1, d2] => { results := [.lit (.bool false)], args := [d1, d2] }
  | _ => none }
def PredSetsWrongFalsely : Prop := predSetsRow.holds Try.pinned (OpenSpec.ofChange predSetsWrong)

/-- 'wayfarerlaw09.PredJoins': WHATEVER THE INPUT: true; the input reads as it did. -/
def predJoinsSpec : ChangeSpec := { name := "predJoins", fn := fun _ => fun
  | [d1, d2] => { results := [.lit (.bool true)], args := [d1, d2] }
  | _ => none }
def predJoinsRow : OpenClaim := { program := "ytiiccefnfepccaa", sum := "759080b806d18da4f9b3d22fd292646167d506120bc0a8011e2abd1dea8d7ae6", func := "wayfarer/wayfarerlaw09.PredJoins", spec := "predJoins", unfollowed := true, recurses := true, loops := true, apart := false }
def PredJoinsSaid : Prop := predJoinsRow.holds Try.pinned (OpenSpec.ofChange predJoinsSpec)

/-- ITS FALSE NEIGHBOUR: 'it returns false'. Refute it at one input. -/
def predJoinsWrong : ChangeSpec := { name := "predJoins", fn := fun _ => fun
  | [d1, d2] => { results := [.lit (.bool false)], args := [d1, d2] }
  | _ => none }
def PredJoinsWrongFalsely : Prop := predJoinsRow.holds Try.pinned (OpenSpec.ofChange predJoinsWrong)

/-- 'wayfarerlaw09.PredRanges': WHATEVER THE INPUT: true; the input reads as it did. -/
def predRangesSpec : ChangeSpec := { name := "predRanges", fn := fun _ => fun
  | [d1, d2, d3] => { results := [.lit (.bool true)], args := [d1, d2, d3] }
  | _ => none }
def predRangesRow : OpenClaim := { program := "ytiiccefnfepccaa", sum := "759080b806d18da4f9b3d22fd292646167d506120bc0a8011e2abd1dea8d7ae6", func := "wayfarer/wayfarerlaw09.PredRanges", spec := "predRanges", unfollowed := true, recurses := true, loops := true, apart := false }
def PredRangesSaid : Prop := predRangesRow.holds Try.pinned (OpenSpec.ofChange predRangesSpec)

/-- ITS FALSE NEIGHBOUR: 'it returns false'. Refute it at one input. -/
def predRangesWrong : ChangeSpec := { name := "predRanges", fn := fun _ => fun
  | [d1, d2, d3] => { results := [.lit (.bool false)], args := [d1, d2, d3] }
  | _ => none }
def PredRangesWrongFalsely : Prop := predRangesRow.holds Try.pinned (OpenSpec.ofChange predRangesWrong)

/- THE SECOND FORM. 'bulk': how many values and letters a reading holds, each counted each time it is reached (what is shared counts as often as it is met; a slice's spare places count too). A statement '..UptoSaid' is the law's where the arguments, and the package variables that the reading takes, are together of bulk at most 1048576: NARROWER than '..Said'. Prove '..Said' where nothing that the law and all that it calls make is longer than what came in: it says more and counts as full. Else prove '..UptoSaid'. A law counts once. -/
mutual
def uptoBulk {H : Type} : DataW H → Nat
  | .lit (.string bytes) => bytes.length + 1
  | .lit _ => 1
  | .nil => 1
  | .ptr d => uptoBulk d + 1
  | .slice elems spare => uptoBulkAll elems + uptoBulkAll spare + 1
  | .agg parts => uptoBulkAll parts + 1
  | .iface _ d => uptoBulk d + 1
  | .map entries => uptoBulkEntries entries + 1
  | .held _ => 1
def uptoBulkAll {H : Type} : List (DataW H) → Nat
  | [] => 0
  | d :: r => uptoBulk d + uptoBulkAll r
def uptoBulkEntries {H : Type} : List (Lit × DataW H) → Nat
  | [] => 0
  | x :: r => uptoBulkEntry x + uptoBulkEntries r
def uptoBulkEntry {H : Type} : Lit × DataW H → Nat
  | (.string bytes, d) => bytes.length + uptoBulk d + 1
  | (_, d) => uptoBulk d + 1
 end
def uptoSmall : (H : Type) → List (DataW H) → Bool := fun _ ds => decide (uptoBulkAll ds ≤ 1048576)
def OpenSpec.upto (s : _root_.Go.ChangeSpec) : _root_.Go.OpenSpec := { _root_.Go.OpenSpec.ofChange s with cond := some uptoSmall }

/-- 'wayfarerlaw09.PredTests', WHERE WHAT IT READS IS OF BULK AT MOST 1048576: true; the input reads as it did. -/
def predTestsUptoRow : OpenClaim := { program := "ytiiccefnfepccaa", sum := "759080b806d18da4f9b3d22fd292646167d506120bc0a8011e2abd1dea8d7ae6", func := "wayfarer/wayfarerlaw09.PredTests", spec := "predTests", unfollowed := true, recurses := true, loops := true, apart := false, narrowed := true }
def PredTestsUptoSaid : Prop := predTestsUptoRow.holds Try.pinned (OpenSpec.upto predTestsSpec)

/-- 'wayfarerlaw09.PredNegates', WHERE WHAT IT READS IS OF BULK AT MOST 1048576: true; the input reads as it did. -/
def predNegatesUptoRow : OpenClaim := { program := "ytiiccefnfepccaa", sum := "759080b806d18da4f9b3d22fd292646167d506120bc0a8011e2abd1dea8d7ae6", func := "wayfarer/wayfarerlaw09.PredNegates", spec := "predNegates", unfollowed := true, recurses := true, loops := true, apart := false, narrowed := true }
def PredNegatesUptoSaid : Prop := predNegatesUptoRow.holds Try.pinned (OpenSpec.upto predNegatesSpec)

/-- 'wayfarerlaw09.PredOthers', WHERE WHAT IT READS IS OF BULK AT MOST 1048576: true; the input reads as it did. -/
def predOthersUptoRow : OpenClaim := { program := "ytiiccefnfepccaa", sum := "759080b806d18da4f9b3d22fd292646167d506120bc0a8011e2abd1dea8d7ae6", func := "wayfarer/wayfarerlaw09.PredOthers", spec := "predOthers", unfollowed := true, recurses := true, loops := true, apart := false, narrowed := true }
def PredOthersUptoSaid : Prop := predOthersUptoRow.holds Try.pinned (OpenSpec.upto predOthersSpec)

/-- 'wayfarerlaw09.PredOrder', WHERE WHAT IT READS IS OF BULK AT MOST 1048576: true; the input reads as it did. -/
def predOrderUptoRow : OpenClaim := { program := "ytiiccefnfepccaa", sum := "759080b806d18da4f9b3d22fd292646167d506120bc0a8011e2abd1dea8d7ae6", func := "wayfarer/wayfarerlaw09.PredOrder", spec := "predOrder", unfollowed := true, recurses := true, loops := true, apart := false, narrowed := true }
def PredOrderUptoSaid : Prop := predOrderUptoRow.holds Try.pinned (OpenSpec.upto predOrderSpec)

/-- 'wayfarerlaw09.PredSets', WHERE WHAT IT READS IS OF BULK AT MOST 1048576: true; the input reads as it did. -/
def predSetsUptoRow : OpenClaim := { program := "ytiiccefnfepccaa", sum := "759080b806d18da4f9b3d22fd292646167d506120bc0a8011e2abd1dea8d7ae6", func := "wayfarer/wayfarerlaw09.PredSets", spec := "predSets", unfollowed := true, recurses := true, loops := true, apart := false, narrowed := true }
def PredSetsUptoSaid : Prop := predSetsUptoRow.holds Try.pinned (OpenSpec.upto predSetsSpec)

/-- 'wayfarerlaw09.PredJoins', WHERE WHAT IT READS IS OF BULK AT MOST 1048576: true; the input reads as it did. -/
def predJoinsUptoRow : OpenClaim := { program := "ytiiccefnfepccaa", sum := "759080b806d18da4f9b3d22fd292646167d506120bc0a8011e2abd1dea8d7ae6", func := "wayfarer/wayfarerlaw09.PredJoins", spec := "predJoins", unfollowed := true, recurses := true, loops := true, apart := false, narrowed := true }
def PredJoinsUptoSaid : Prop := predJoinsUptoRow.holds Try.pinned (OpenSpec.upto predJoinsSpec)

/-- 'wayfarerlaw09.PredRanges', WHERE WHAT IT READS IS OF BULK AT MOST 1048576: true; the input reads as it did. -/
def predRangesUptoRow : OpenClaim := { program := "ytiiccefnfepccaa", sum := "759080b806d18da4f9b3d22fd292646167d506120bc0a8011e2abd1dea8d7ae6", func := "wayfarer/wayfarerlaw09.PredRanges", spec := "predRanges", unfollowed := true, recurses := true, loops := true, apart := false, narrowed := true }
def PredRangesUptoSaid : Prop := predRangesUptoRow.holds Try.pinned (OpenSpec.upto predRangesSpec)

end Rows
end Go.Proofs.Ytiiccefnfepccaa

/-
  NARROWER THAN 'FOR EVERY INPUT', by the rows' own cells (each row's printed sentence says how): StoreAround: loops · StorePicks: loops · StoreBoth: loops · StoreLabels: loops · StoreTurned: loops · StoreNil: loops · StoreGrows: loops.
  DERIVED. THE GIVEN ROWS OF THIS SEAT. 7 by the template 'for every input the law returns true; each argument reads behind the call as it read before'; 0 by the template 'total and deterministic' (their statements: YtebkkjfeikpfgaaTotals.lean).
  GIVEN WITH THE SEED: the statements are not yours to turn. If you find one false, say at which input.
  Laid BY PROGRAM, IN A SANDBOX (cutbox-rows.mjs): the forced cells as the released guide's own fill.sh prints them over the translation f6868ac836294a66… (all of the seat's roots in one cut). By AI agents, Wed Nov 11 2026. No macro, syntax, notation, axiom, sorry.
-/
import Derived.Test.YtebkkjfeikpfgaaChecked
import GoSem.Claim
import GoSem.ClaimJoined
import GoSem.ClaimMapViews
import Derived.JoinedTies
import Derived.KernelRfl
namespace Go.Proofs.Ytebkkjfeikpfgaa
/- THE CELL 'sum', in the pinned program and in every row, IS THE sha256 OF THE DUMP (.gsa) THAT YtebkkjfeikpfgaaProg.lean LOADS. Nothing in Lean hashes anything: it is a label: what it is worth is what the hold of that sum in a sandbox is worth. -/
noncomputable def Try.pinned : Pinned := { name := "ytebkkjfeikpfgaa", sum := "f6868ac836294a6626f82bbf76fe001d3a6e99fc17c7f2531867a32b5f1cb182", checked := Try.checked }
namespace Rows
def none {H : Type} : Left H := { results := [], args := [] }

/-- 'wayfarerlaw07.StoreAround': WHATEVER THE INPUT: true; the input reads as it did. -/
def storeAroundSpec : ChangeSpec := { name := "storeAround", fn := fun _ => fun
  | [d1, d2, d3, d4] => { results := [.lit (.bool true)], args := [d1, d2, d3, d4] }
  | _ => none }
def storeAroundRow : OpenClaim := { program := "ytebkkjfeikpfgaa", sum := "f6868ac836294a6626f82bbf76fe001d3a6e99fc17c7f2531867a32b5f1cb182", func := "wayfarer/wayfarerlaw07.StoreAround", spec := "storeAround", unfollowed := true, recurses := true, loops := true, plainKeys := false, apart := false }
def StoreAroundSaid : Prop := storeAroundRow.holds Try.pinned (OpenSpec.ofChange storeAroundSpec)

/-- ITS FALSE NEIGHBOUR: 'it returns false'. Refute it at one input. -/
def storeAroundWrong : ChangeSpec := { name := "storeAround", fn := fun _ => fun
  | [d1, d2, d3, d4] => { results := [.lit (.bool false)], args := [d1, d2, d3, d4] }
  | _ => none }
def StoreAroundWrongFalsely : Prop := storeAroundRow.holds Try.pinned (OpenSpec.ofChange storeAroundWrong)

/-- 'wayfarerlaw07.StorePicks': WHATEVER THE INPUT: true; the input reads as it did. -/
def storePicksSpec : ChangeSpec := { name := "storePicks", fn := fun _ => fun
  | [d1, d2, d3] => { results := [.lit (.bool true)], args := [d1, d2, d3] }
  | _ => none }
def storePicksRow : OpenClaim := { program := "ytebkkjfeikpfgaa", sum := "f6868ac836294a6626f82bbf76fe001d3a6e99fc17c7f2531867a32b5f1cb182", func := "wayfarer/wayfarerlaw07.StorePicks", spec := "storePicks", unfollowed := true, recurses := true, loops := true, plainKeys := false, apart := false }
def StorePicksSaid : Prop := storePicksRow.holds Try.pinned (OpenSpec.ofChange storePicksSpec)

/-- ITS FALSE NEIGHBOUR: 'it returns false'. Refute it at one input. -/
def storePicksWrong : ChangeSpec := { name := "storePicks", fn := fun _ => fun
  | [d1, d2, d3] => { results := [.lit (.bool false)], args := [d1, d2, d3] }
  | _ => none }
def StorePicksWrongFalsely : Prop := storePicksRow.holds Try.pinned (OpenSpec.ofChange storePicksWrong)

/-- 'wayfarerlaw07.StoreBoth': WHATEVER THE INPUT: true; the input reads as it did. -/
def storeBothSpec : ChangeSpec := { name := "storeBoth", fn := fun _ => fun
  | [d] => { results := [.lit (.bool true)], args := [d] }
  | _ => none }
def storeBothRow : OpenClaim := { program := "ytebkkjfeikpfgaa", sum := "f6868ac836294a6626f82bbf76fe001d3a6e99fc17c7f2531867a32b5f1cb182", func := "wayfarer/wayfarerlaw07.StoreBoth", spec := "storeBoth", unfollowed := true, recurses := true, loops := true, plainKeys := false, apart := false }
def StoreBothSaid : Prop := storeBothRow.holds Try.pinned (OpenSpec.ofChange storeBothSpec)

/-- ITS FALSE NEIGHBOUR: 'it returns false'. Refute it at one input. -/
def storeBothWrong : ChangeSpec := { name := "storeBoth", fn := fun _ => fun
  | [d] => { results := [.lit (.bool false)], args := [d] }
  | _ => none }
def StoreBothWrongFalsely : Prop := storeBothRow.holds Try.pinned (OpenSpec.ofChange storeBothWrong)

/-- 'wayfarerlaw07.StoreLabels': WHATEVER THE INPUT: true; the input reads as it did. -/
def storeLabelsSpec : ChangeSpec := { name := "storeLabels", fn := fun _ => fun
  | [d1, d2, d3, d4] => { results := [.lit (.bool true)], args := [d1, d2, d3, d4] }
  | _ => none }
def storeLabelsRow : OpenClaim := { program := "ytebkkjfeikpfgaa", sum := "f6868ac836294a6626f82bbf76fe001d3a6e99fc17c7f2531867a32b5f1cb182", func := "wayfarer/wayfarerlaw07.StoreLabels", spec := "storeLabels", unfollowed := true, recurses := true, loops := true, plainKeys := false, apart := false }
def StoreLabelsSaid : Prop := storeLabelsRow.holds Try.pinned (OpenSpec.ofChange storeLabelsSpec)

/-- ITS FALSE NEIGHBOUR: 'it returns false'. Refute it at one input. -/
def storeLabelsWrong : ChangeSpec := { name := "storeLabels", fn := fun _ => fun
  | [d1, d2, d3, d4] => { results := [.lit (.bool false)], args := [d1, d2, d3, d4] }
  | _ => none }
def StoreLabelsWrongFalsely : Prop := storeLabelsRow.holds Try.pinned (OpenSpec.ofChange storeLabelsWrong)

/-- 'wayfarerlaw07.StoreTurned': WHATEVER THE INPUT: true; the input reads as it did. -/
def storeTurnedSpec : ChangeSpec := { name := "storeTurned", fn := fun _ => fun
  | [d1, d2] => { results := [.lit (.bool true)], args := [d1, d2] }
  | _ => none }
def storeTurnedRow : OpenClaim := { program := "ytebkkjfeikpfgaa", sum := "f6868ac836294a6626f82bbf76fe001d3a6e99fc17c7f2531867a32b5f1cb182", func := "wayfarer/wayfarerlaw07.StoreTurned", spec := "storeTurned", unfollowed := true, recurses := true, loops := true, plainKeys := false, apart := false }
def StoreTurnedSaid : Prop := storeTurnedRow.holds Try.pinned (OpenSpec.ofChange storeTurnedSpec)

/-- ITS FALSE NEIGHBOUR: 'it returns false'. Refute it at one input. -/
def storeTurnedWrong : ChangeSpec := { name := "storeTurned", fn := fun _ => fun
  | [d1, d2] => { results := [.lit (.bool false)], args := [d1, d2] }
  | _ => none }
def StoreTurnedWrongFalsely : Prop := storeTurnedRow.holds Try.pinned (OpenSpec.ofChange storeTurnedWrong)

/-- 'wayfarerlaw07.StoreNil': WHATEVER THE INPUT: true; the input reads as it did. -/
def storeNilSpec : ChangeSpec := { name := "storeNil", fn := fun _ => fun
  | [d1, d2, d3] => { results := [.lit (.bool true)], args := [d1, d2, d3] }
  | _ => none }
def storeNilRow : OpenClaim := { program := "ytebkkjfeikpfgaa", sum := "f6868ac836294a6626f82bbf76fe001d3a6e99fc17c7f2531867a32b5f1cb182", func := "wayfarer/wayfarerlaw07.StoreNil", spec := "storeNil", unfollowed := true, recurses := true, loops := true, plainKeys := false, apart := false }
def StoreNilSaid : Prop := storeNilRow.holds Try.pinned (OpenSpec.ofChange storeNilSpec)

/-- ITS FALSE NEIGHBOUR: 'it returns false'. Refute it at one input. -/
def storeNilWrong : ChangeSpec := { name := "storeNil", fn := fun _ => fun
  | [d1, d2, d3] => { results := [.lit (.bool false)], args := [d1, d2, d3] }
  | _ => none }
def StoreNilWrongFalsely : Prop := storeNilRow.holds Try.pinned (OpenSpec.ofChange storeNilWrong)

/-- 'wayfarerlaw07.StoreGrows': WHATEVER THE INPUT: true; the input reads as it did. -/
def storeGrowsSpec : ChangeSpec := { name := "storeGrows", fn := fun _ => fun
  | [d1, d2, d3, d4] => { results := [.lit (.bool true)], args := [d1, d2, d3, d4] }
  | _ => none }
def storeGrowsRow : OpenClaim := { program := "ytebkkjfeikpfgaa", sum := "f6868ac836294a6626f82bbf76fe001d3a6e99fc17c7f2531867a32b5f1cb182", func := "wayfarer/wayfarerlaw07.StoreGrows", spec := "storeGrows", unfollowed := true, recurses := true, loops := true, plainKeys := false, apart := false }
def StoreGrowsSaid : Prop := storeGrowsRow.holds Try.pinned (OpenSpec.ofChange storeGrowsSpec)

/-- ITS FALSE NEIGHBOUR: 'it returns false'. Refute it at one input. -/
def storeGrowsWrong : ChangeSpec := { name := "storeGrows", fn := fun _ => fun
  | [d1, d2, d3, d4] => { results := [.lit (.bool false)], args := [d1, d2, d3, d4] }
  | _ => none }
def StoreGrowsWrongFalsely : Prop := storeGrowsRow.holds Try.pinned (OpenSpec.ofChange storeGrowsWrong)

/- THE SECOND FORM. 'bulk': how many values and letters a reading holds, each counted each time it is reached (what is shared counts as often as it is met; a slice's spare places count too). A statement '..UptoSaid' is the law's where the arguments, and the package variables that the reading takes, are together of bulk at most 1048576: NARROWER than '..Said'. Prove '..Said' where nothing that the law and all that it calls make is longer than what came in: it says more and counts as full. Else prove '..UptoSaid'. A law counts once. -/
mutual
def uptoBulk {H : Type} : DataW H → Nat
  | .lit (.string bytes) => bytes.length + 1
  | .lit _ => 1
  | .nil => 1
  | .ptr d => uptoBulk d + 1
  | .slice elems spare => uptoBulkAll elems + uptoBulkAll spare + 1
  | .agg parts => uptoBulkAll parts + 1
  | .iface _ d => uptoBulk d + 1
  | .map entries => uptoBulkEntries entries + 1
  | .held _ => 1
def uptoBulkAll {H : Type} : List (DataW H) → Nat
  | [] => 0
  | d :: r => uptoBulk d + uptoBulkAll r
def uptoBulkEntries {H : Type} : List (Lit × DataW H) → Nat
  | [] => 0
  | x :: r => uptoBulkEntry x + uptoBulkEntries r
def uptoBulkEntry {H : Type} : Lit × DataW H → Nat
  | (.string bytes, d) => bytes.length + uptoBulk d + 1
  | (_, d) => uptoBulk d + 1
 end
def uptoSmall : (H : Type) → List (DataW H) → Bool := fun _ ds => decide (uptoBulkAll ds ≤ 1048576)
def OpenSpec.upto (s : _root_.Go.ChangeSpec) : _root_.Go.OpenSpec := { _root_.Go.OpenSpec.ofChange s with cond := some uptoSmall }

/-- 'wayfarerlaw07.StoreAround', WHERE WHAT IT READS IS OF BULK AT MOST 1048576: true; the input reads as it did. -/
def storeAroundUptoRow : OpenClaim := { program := "ytebkkjfeikpfgaa", sum := "f6868ac836294a6626f82bbf76fe001d3a6e99fc17c7f2531867a32b5f1cb182", func := "wayfarer/wayfarerlaw07.StoreAround", spec := "storeAround", unfollowed := true, recurses := true, loops := true, plainKeys := false, apart := false, narrowed := true }
def StoreAroundUptoSaid : Prop := storeAroundUptoRow.holds Try.pinned (OpenSpec.upto storeAroundSpec)

/-- 'wayfarerlaw07.StorePicks', WHERE WHAT IT READS IS OF BULK AT MOST 1048576: true; the input reads as it did. -/
def storePicksUptoRow : OpenClaim := { program := "ytebkkjfeikpfgaa", sum := "f6868ac836294a6626f82bbf76fe001d3a6e99fc17c7f2531867a32b5f1cb182", func := "wayfarer/wayfarerlaw07.StorePicks", spec := "storePicks", unfollowed := true, recurses := true, loops := true, plainKeys := false, apart := false, narrowed := true }
def StorePicksUptoSaid : Prop := storePicksUptoRow.holds Try.pinned (OpenSpec.upto storePicksSpec)

/-- 'wayfarerlaw07.StoreBoth', WHERE WHAT IT READS IS OF BULK AT MOST 1048576: true; the input reads as it did. -/
def storeBothUptoRow : OpenClaim := { program := "ytebkkjfeikpfgaa", sum := "f6868ac836294a6626f82bbf76fe001d3a6e99fc17c7f2531867a32b5f1cb182", func := "wayfarer/wayfarerlaw07.StoreBoth", spec := "storeBoth", unfollowed := true, recurses := true, loops := true, plainKeys := false, apart := false, narrowed := true }
def StoreBothUptoSaid : Prop := storeBothUptoRow.holds Try.pinned (OpenSpec.upto storeBothSpec)

/-- 'wayfarerlaw07.StoreLabels', WHERE WHAT IT READS IS OF BULK AT MOST 1048576: true; the input reads as it did. -/
def storeLabelsUptoRow : OpenClaim := { program := "ytebkkjfeikpfgaa", sum := "f6868ac836294a6626f82bbf76fe001d3a6e99fc17c7f2531867a32b5f1cb182", func := "wayfarer/wayfarerlaw07.StoreLabels", spec := "storeLabels", unfollowed := true, recurses := true, loops := true, plainKeys := false, apart := false, narrowed := true }
def StoreLabelsUptoSaid : Prop := storeLabelsUptoRow.holds Try.pinned (OpenSpec.upto storeLabelsSpec)

/-- 'wayfarerlaw07.StoreTurned', WHERE WHAT IT READS IS OF BULK AT MOST 1048576: true; the input reads as it did. -/
def storeTurnedUptoRow : OpenClaim := { program := "ytebkkjfeikpfgaa", sum := "f6868ac836294a6626f82bbf76fe001d3a6e99fc17c7f2531867a32b5f1cb182", func := "wayfarer/wayfarerlaw07.StoreTurned", spec := "storeTurned", unfollowed := true, recurses := true, loops := true, plainKeys := false, apart := false, narrowed := true }
def StoreTurnedUptoSaid : Prop := storeTurnedUptoRow.holds Try.pinned (OpenSpec.upto storeTurnedSpec)

/-- 'wayfarerlaw07.StoreNil', WHERE WHAT IT READS IS OF BULK AT MOST 1048576: true; the input reads as it did. -/
def storeNilUptoRow : OpenClaim := { program := "ytebkkjfeikpfgaa", sum := "f6868ac836294a6626f82bbf76fe001d3a6e99fc17c7f2531867a32b5f1cb182", func := "wayfarer/wayfarerlaw07.StoreNil", spec := "storeNil", unfollowed := true, recurses := true, loops := true, plainKeys := false, apart := false, narrowed := true }
def StoreNilUptoSaid : Prop := storeNilUptoRow.holds Try.pinned (OpenSpec.upto storeNilSpec)

/-- 'wayfarerlaw07.StoreGrows', WHERE WHAT IT READS IS OF BULK AT MOST 1048576: true; the input reads as it did. -/
def storeGrowsUptoRow : OpenClaim := { program := "ytebkkjfeikpfgaa", sum := "f6868ac836294a6626f82bbf76fe001d3a6e99fc17c7f2531867a32b5f1cb182", func := "wayfarer/wayfarerlaw07.StoreGrows", spec := "storeGrows", unfollowed := true, recurses := true, loops := true, plainKeys := false, apart := false, narrowed := true }
def StoreGrowsUptoSaid : Prop := storeGrowsUptoRow.holds Try.pinned (OpenSpec.upto storeGrowsSpec)

end Rows
end Go.Proofs.Ytebkkjfeikpfgaa

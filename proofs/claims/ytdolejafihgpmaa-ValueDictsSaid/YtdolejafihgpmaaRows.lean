/-
  NARROWER THAN 'FOR EVERY INPUT', by the rows' own cells (each row's printed sentence says how): ValueCmps: loops · ValueChecks: loops · ValueDicts: loops · ValueMakes: loops · ValueOrder: loops · ValueKeys: loops · ValueNests: loops.
  DERIVED. THE GIVEN ROWS OF THIS SEAT. 7 by the template 'for every input the law returns true; each argument reads behind the call as it read before'; 0 by the template 'total and deterministic' (their statements: YtdolejafihgpmaaTotals.lean).
  GIVEN WITH THE SEED: the statements are not yours to turn. If you find one false, say at which input.
  Laid BY PROGRAM, IN A SANDBOX (cutbox-rows.mjs): the forced cells as the released guide's own fill.sh prints them over the translation b397a0c9b8bbf797… (all of the seat's roots in one cut). By AI agents, Wed Nov 11 2026. No macro, syntax, notation, axiom, sorry.
-/
import Derived.Test.YtdolejafihgpmaaChecked
import GoSem.Claim
import GoSem.ClaimJoined
import GoSem.ClaimMapViews
import Derived.JoinedTies
import Derived.KernelRfl
namespace Go.Proofs.Ytdolejafihgpmaa
/- THE CELL 'sum', in the pinned program and in every row, IS THE sha256 OF THE DUMP (.gsa) THAT YtdolejafihgpmaaProg.lean LOADS. Nothing in Lean hashes anything: it is a label: what it is worth is what the hold of that sum in a sandbox is worth. -/
noncomputable def Try.pinned : Pinned := { name := "ytdolejafihgpmaa", sum := "b397a0c9b8bbf79794d463e937a15eeedaaff93b02f4196ab6c39b72012ec853", checked := Try.checked }
namespace Rows
def none {H : Type} : Left H := { results := [], args := [] }

/-- 'wayfarerlaw02.ValueCmps': WHATEVER THE INPUT: true; the input reads as it did. -/
def valueCmpsSpec : ChangeSpec := { name := "valueCmps", fn := fun _ => fun
  | [d1, d2] => { results := [.lit (.bool true)], args := [d1, d2] }
  | _ => none }
def valueCmpsRow : OpenClaim := { program := "ytdolejafihgpmaa", sum := "b397a0c9b8bbf79794d463e937a15eeedaaff93b02f4196ab6c39b72012ec853", func := "wayfarer/wayfarerlaw02.ValueCmps", spec := "valueCmps", unfollowed := true, recurses := true, loops := true, apart := false }
def ValueCmpsSaid : Prop := valueCmpsRow.holds Try.pinned (OpenSpec.ofChange valueCmpsSpec)

/-- ITS FALSE NEIGHBOUR: 'it returns false'. Refute it at one input. -/
def valueCmpsWrong : ChangeSpec := { name := "valueCmps", fn := fun _ => fun
  | [d1, d2] => { results := [.lit (.bool false)], args := [d1, d2] }
  | _ => none }
def ValueCmpsWrongFalsely : Prop := valueCmpsRow.holds Try.pinned (OpenSpec.ofChange valueCmpsWrong)

/-- 'wayfarerlaw02.ValueChecks': WHATEVER THE INPUT: true; the input reads as it did. -/
def valueChecksSpec : ChangeSpec := { name := "valueChecks", fn := fun _ => fun
  | [d] => { results := [.lit (.bool true)], args := [d] }
  | _ => none }
def valueChecksRow : OpenClaim := { program := "ytdolejafihgpmaa", sum := "b397a0c9b8bbf79794d463e937a15eeedaaff93b02f4196ab6c39b72012ec853", func := "wayfarer/wayfarerlaw02.ValueChecks", spec := "valueChecks", unfollowed := true, recurses := true, loops := true, apart := false }
def ValueChecksSaid : Prop := valueChecksRow.holds Try.pinned (OpenSpec.ofChange valueChecksSpec)

/-- ITS FALSE NEIGHBOUR: 'it returns false'. Refute it at one input. -/
def valueChecksWrong : ChangeSpec := { name := "valueChecks", fn := fun _ => fun
  | [d] => { results := [.lit (.bool false)], args := [d] }
  | _ => none }
def ValueChecksWrongFalsely : Prop := valueChecksRow.holds Try.pinned (OpenSpec.ofChange valueChecksWrong)

/-- 'wayfarerlaw02.ValueDicts': WHATEVER THE INPUT: true; the input reads as it did. -/
def valueDictsSpec : ChangeSpec := { name := "valueDicts", fn := fun _ => fun
  | [d1, d2, d3] => { results := [.lit (.bool true)], args := [d1, d2, d3] }
  | _ => none }
def valueDictsRow : OpenClaim := { program := "ytdolejafihgpmaa", sum := "b397a0c9b8bbf79794d463e937a15eeedaaff93b02f4196ab6c39b72012ec853", func := "wayfarer/wayfarerlaw02.ValueDicts", spec := "valueDicts", unfollowed := true, recurses := true, loops := true, apart := false }
def ValueDictsSaid : Prop := valueDictsRow.holds Try.pinned (OpenSpec.ofChange valueDictsSpec)

/-- ITS FALSE NEIGHBOUR: 'it returns false'. Refute it at one input. -/
def valueDictsWrong : ChangeSpec := { name := "valueDicts", fn := fun _ => fun
  | [d1, d2, d3] => { results := [.lit (.bool false)], args := [d1, d2, d3] }
  | _ => none }
def ValueDictsWrongFalsely : Prop := valueDictsRow.holds Try.pinned (OpenSpec.ofChange valueDictsWrong)

/-- 'wayfarerlaw02.ValueMakes': WHATEVER THE INPUT: true; the input reads as it did. -/
def valueMakesSpec : ChangeSpec := { name := "valueMakes", fn := fun _ => fun
  | [d1, d2, d3, d4] => { results := [.lit (.bool true)], args := [d1, d2, d3, d4] }
  | _ => none }
def valueMakesRow : OpenClaim := { program := "ytdolejafihgpmaa", sum := "b397a0c9b8bbf79794d463e937a15eeedaaff93b02f4196ab6c39b72012ec853", func := "wayfarer/wayfarerlaw02.ValueMakes", spec := "valueMakes", unfollowed := true, recurses := true, loops := true, apart := false }
def ValueMakesSaid : Prop := valueMakesRow.holds Try.pinned (OpenSpec.ofChange valueMakesSpec)

/-- ITS FALSE NEIGHBOUR: 'it returns false'. Refute it at one input. -/
def valueMakesWrong : ChangeSpec := { name := "valueMakes", fn := fun _ => fun
  | [d1, d2, d3, d4] => { results := [.lit (.bool false)], args := [d1, d2, d3, d4] }
  | _ => none }
def ValueMakesWrongFalsely : Prop := valueMakesRow.holds Try.pinned (OpenSpec.ofChange valueMakesWrong)

/-- 'wayfarerlaw02.ValueOrder': WHATEVER THE INPUT: true; the input reads as it did. -/
def valueOrderSpec : ChangeSpec := { name := "valueOrder", fn := fun _ => fun
  | [d1, d2, d3] => { results := [.lit (.bool true)], args := [d1, d2, d3] }
  | _ => none }
def valueOrderRow : OpenClaim := { program := "ytdolejafihgpmaa", sum := "b397a0c9b8bbf79794d463e937a15eeedaaff93b02f4196ab6c39b72012ec853", func := "wayfarer/wayfarerlaw02.ValueOrder", spec := "valueOrder", unfollowed := true, recurses := true, loops := true, apart := false }
def ValueOrderSaid : Prop := valueOrderRow.holds Try.pinned (OpenSpec.ofChange valueOrderSpec)

/-- ITS FALSE NEIGHBOUR: 'it returns false'. Refute it at one input. -/
def valueOrderWrong : ChangeSpec := { name := "valueOrder", fn := fun _ => fun
  | [d1, d2, d3] => { results := [.lit (.bool false)], args := [d1, d2, d3] }
  | _ => none }
def ValueOrderWrongFalsely : Prop := valueOrderRow.holds Try.pinned (OpenSpec.ofChange valueOrderWrong)

/-- 'wayfarerlaw02.ValueKeys': WHATEVER THE INPUT: true; the input reads as it did. -/
def valueKeysSpec : ChangeSpec := { name := "valueKeys", fn := fun _ => fun
  | [d1, d2] => { results := [.lit (.bool true)], args := [d1, d2] }
  | _ => none }
def valueKeysRow : OpenClaim := { program := "ytdolejafihgpmaa", sum := "b397a0c9b8bbf79794d463e937a15eeedaaff93b02f4196ab6c39b72012ec853", func := "wayfarer/wayfarerlaw02.ValueKeys", spec := "valueKeys", unfollowed := true, recurses := true, loops := true, apart := false }
def ValueKeysSaid : Prop := valueKeysRow.holds Try.pinned (OpenSpec.ofChange valueKeysSpec)

/-- ITS FALSE NEIGHBOUR: 'it returns false'. Refute it at one input. -/
def valueKeysWrong : ChangeSpec := { name := "valueKeys", fn := fun _ => fun
  | [d1, d2] => { results := [.lit (.bool false)], args := [d1, d2] }
  | _ => none }
def ValueKeysWrongFalsely : Prop := valueKeysRow.holds Try.pinned (OpenSpec.ofChange valueKeysWrong)

/-- 'wayfarerlaw02.ValueNests': WHATEVER THE INPUT: true; the input reads as it did. -/
def valueNestsSpec : ChangeSpec := { name := "valueNests", fn := fun _ => fun
  | [d1, d2] => { results := [.lit (.bool true)], args := [d1, d2] }
  | _ => none }
def valueNestsRow : OpenClaim := { program := "ytdolejafihgpmaa", sum := "b397a0c9b8bbf79794d463e937a15eeedaaff93b02f4196ab6c39b72012ec853", func := "wayfarer/wayfarerlaw02.ValueNests", spec := "valueNests", unfollowed := true, recurses := true, loops := true, apart := false }
def ValueNestsSaid : Prop := valueNestsRow.holds Try.pinned (OpenSpec.ofChange valueNestsSpec)

/-- ITS FALSE NEIGHBOUR: 'it returns false'. Refute it at one input. -/
def valueNestsWrong : ChangeSpec := { name := "valueNests", fn := fun _ => fun
  | [d1, d2] => { results := [.lit (.bool false)], args := [d1, d2] }
  | _ => none }
def ValueNestsWrongFalsely : Prop := valueNestsRow.holds Try.pinned (OpenSpec.ofChange valueNestsWrong)

/- THE SECOND FORM. 'bulk': how many values and letters a reading holds, each counted each time it is reached (what is shared counts as often as it is met; a slice's spare places count too). A statement '..UptoSaid' is the law's where the arguments, and the package variables that the reading takes, are together of bulk at most 1048576: NARROWER than '..Said'. Prove '..Said' where nothing that the law and all that it calls make is longer than what came in: it says more and counts as full. Else prove '..UptoSaid'. A law counts once. -/
mutual
def uptoBulk {H : Type} : DataW H → Nat
  | .lit (.string bytes) => bytes.length + 1
  | .lit _ => 1
  | .nil => 1
  | .ptr d => uptoBulk d + 1
  | .slice elems spare => uptoBulkAll elems + uptoBulkAll spare + 1
  | .agg parts => uptoBulkAll parts + 1
  | .iface _ d => uptoBulk d + 1
  | .map entries => uptoBulkEntries entries + 1
  | .held _ => 1
def uptoBulkAll {H : Type} : List (DataW H) → Nat
  | [] => 0
  | d :: r => uptoBulk d + uptoBulkAll r
def uptoBulkEntries {H : Type} : List (Lit × DataW H) → Nat
  | [] => 0
  | x :: r => uptoBulkEntry x + uptoBulkEntries r
def uptoBulkEntry {H : Type} : Lit × DataW H → Nat
  | (.string bytes, d) => bytes.length + uptoBulk d + 1
  | (_, d) => uptoBulk d + 1
 end
def uptoSmall : (H : Type) → List (DataW H) → Bool := fun _ ds => decide (uptoBulkAll ds ≤ 1048576)
def OpenSpec.upto (s : _root_.Go.ChangeSpec) : _root_.Go.OpenSpec := { _root_.Go.OpenSpec.ofChange s with cond := some uptoSmall }

/-- 'wayfarerlaw02.ValueCmps', WHERE WHAT IT READS IS OF BULK AT MOST 1048576: true; the input reads as it did. -/
def valueCmpsUptoRow : OpenClaim := { program := "ytdolejafihgpmaa", sum := "b397a0c9b8bbf79794d463e937a15eeedaaff93b02f4196ab6c39b72012ec853", func := "wayfarer/wayfarerlaw02.ValueCmps", spec := "valueCmps", unfollowed := true, recurses := true, loops := true, apart := false, narrowed := true }
def ValueCmpsUptoSaid : Prop := valueCmpsUptoRow.holds Try.pinned (OpenSpec.upto valueCmpsSpec)

/-- 'wayfarerlaw02.ValueChecks', WHERE WHAT IT READS IS OF BULK AT MOST 1048576: true; the input reads as it did. -/
def valueChecksUptoRow : OpenClaim := { program := "ytdolejafihgpmaa", sum := "b397a0c9b8bbf79794d463e937a15eeedaaff93b02f4196ab6c39b72012ec853", func := "wayfarer/wayfarerlaw02.ValueChecks", spec := "valueChecks", unfollowed := true, recurses := true, loops := true, apart := false, narrowed := true }
def ValueChecksUptoSaid : Prop := valueChecksUptoRow.holds Try.pinned (OpenSpec.upto valueChecksSpec)

/-- 'wayfarerlaw02.ValueDicts', WHERE WHAT IT READS IS OF BULK AT MOST 1048576: true; the input reads as it did. -/
def valueDictsUptoRow : OpenClaim := { program := "ytdolejafihgpmaa", sum := "b397a0c9b8bbf79794d463e937a15eeedaaff93b02f4196ab6c39b72012ec853", func := "wayfarer/wayfarerlaw02.ValueDicts", spec := "valueDicts", unfollowed := true, recurses := true, loops := true, apart := false, narrowed := true }
def ValueDictsUptoSaid : Prop := valueDictsUptoRow.holds Try.pinned (OpenSpec.upto valueDictsSpec)

/-- 'wayfarerlaw02.ValueMakes', WHERE WHAT IT READS IS OF BULK AT MOST 1048576: true; the input reads as it did. -/
def valueMakesUptoRow : OpenClaim := { program := "ytdolejafihgpmaa", sum := "b397a0c9b8bbf79794d463e937a15eeedaaff93b02f4196ab6c39b72012ec853", func := "wayfarer/wayfarerlaw02.ValueMakes", spec := "valueMakes", unfollowed := true, recurses := true, loops := true, apart := false, narrowed := true }
def ValueMakesUptoSaid : Prop := valueMakesUptoRow.holds Try.pinned (OpenSpec.upto valueMakesSpec)

/-- 'wayfarerlaw02.ValueOrder', WHERE WHAT IT READS IS OF BULK AT MOST 1048576: true; the input reads as it did. -/
def valueOrderUptoRow : OpenClaim := { program := "ytdolejafihgpmaa", sum := "b397a0c9b8bbf79794d463e937a15eeedaaff93b02f4196ab6c39b72012ec853", func := "wayfarer/wayfarerlaw02.ValueOrder", spec := "valueOrder", unfollowed := true, recurses := true, loops := true, apart := false, narrowed := true }
def ValueOrderUptoSaid : Prop := valueOrderUptoRow.holds Try.pinned (OpenSpec.upto valueOrderSpec)

/-- 'wayfarerlaw02.ValueKeys', WHERE WHAT IT READS IS OF BULK AT MOST 1048576: true; the input reads as it did. -/
def valueKeysUptoRow : OpenClaim := { program := "ytdolejafihgpmaa", sum := "b397a0c9b8bbf79794d463e937a15eeedaaff93b02f4196ab6c39b72012ec853", func := "wayfarer/wayfarerlaw02.ValueKeys", spec := "valueKeys", unfollowed := true, recurses := true, loops := true, apart := false, narrowed := true }
def ValueKeysUptoSaid : Prop := valueKeysUptoRow.holds Try.pinned (OpenSpec.upto valueKeysSpec)

/-- 'wayfarerlaw02.ValueNests', WHERE WHAT IT READS IS OF BULK AT MOST 1048576: true; the input reads as it did. -/
def valueNestsUptoRow : OpenClaim := { program := "ytdolejafihgpmaa", sum := "b397a0c9b8bbf79794d463e937a15eeedaaff93b02f4196ab6c39b72012ec853", func := "wayfarer/wayfarerlaw02.ValueNests", spec := "valueNests", unfollowed := true, recurses := true, loops := true, apart := false, narrowed := true }
def ValueNestsUptoSaid : Prop := valueNestsUptoRow.holds Try.pinned (OpenSpec.upto valueNestsSpec)

end Rows
end Go.Proofs.Ytdolejafihgpmaa

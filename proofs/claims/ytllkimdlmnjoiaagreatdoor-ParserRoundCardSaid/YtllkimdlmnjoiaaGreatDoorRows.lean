/-
  NARROWER THAN 'FOR EVERY INPUT', by the rows' own cells (each row's printed sentence says how): ParserBack: loops, laid · ParserRound: laid · ParserCuts: loops, laid · ParserLoose: loops, laid · ParserBounds: laid.
  DERIVED. THE GIVEN ROWS OF THIS SEAT. 5 by the template 'for every input the law returns true; each argument reads behind the call as it read before'; 0 by the template 'total and deterministic' (their statements: YtllkimdlmnjoiaaGreatDoorTotals.lean).
  GIVEN WITH THE SEED: the statements are not yours to turn. If you find one false, say at which input.
  Laid BY PROGRAM, IN A SANDBOX (cutbox-rows.mjs): the forced cells as the released guide's own fill.sh prints them over the translation f8ef2841dd7e4a1b… (all of the seat's roots in one cut). By AI agents, Wed Nov 11 2026. No macro, syntax, notation, axiom, sorry.
-/
import Derived.Test.YtllkimdlmnjoiaaGreatDoorChecked
import GoSem.Claim
import GoSem.ClaimJoined
import GoSem.ClaimMapViews
import Derived.JoinedTies
import Derived.KernelRfl
namespace Go.Proofs.YtllkimdlmnjoiaaGreatDoor
/- THE CELL 'sum', in the pinned program and in every row, IS THE sha256 OF THE DUMP (.gsa) THAT YtllkimdlmnjoiaaGreatDoorProg.lean LOADS. Nothing in Lean hashes anything: it is a label: what it is worth is what the hold of that sum in a sandbox is worth. -/
noncomputable def Tryz.pinned : Pinned := { name := "ytllkimdlmnjoiaagreatdoor", sum := "f8ef2841dd7e4a1bbddc0abcd5618f2bd55a8a0cbdb891805fcf65f14ae4e90e", checked := Tryz.checked }
namespace Rows
def none {H : Type} : Left H := { results := [], args := [] }

/- WHAT THE LISTED PACKAGE-LEVEL VARIABLES READ AS WHEN THE CALL BEGINS. Each datum BY PROGRAM (the guide's laid-datum.mjs) off the statement by which the dump's own 'gosem.cut.vars' lays the variable. In a bare row this is a premise. The card (YtllkimdlmnjoiaaGreatDoorCards.lean) ties it to the program's text. -/
def laid_wayfarer_tree_names {H : Type} : DataW H := .agg [.lit (.string []), .lit (.string [101, 113]), .lit (.string [110, 101, 113]), .lit (.string [108, 116]), .lit (.string [108, 116, 101]), .lit (.string [103, 116]), .lit (.string [103, 116, 101]), .lit (.string [98, 101, 116, 119, 101, 101, 110]), .lit (.string [105, 110, 115, 105, 100, 101]), .lit (.string [111, 117, 116, 115, 105, 100, 101]), .lit (.string [119, 105, 116, 104, 105, 110]), .lit (.string [119, 105, 116, 104, 111, 117, 116]), .lit (.string [110, 111, 116]), .lit (.string [97, 110, 100]), .lit (.string [111, 114])]

/-- 'wayfarerlaw11.ParserBack': WHATEVER THE INPUT: true; the input reads as it did. -/
def parserBackSpec : ChangeSpec := { name := "parserBack", fn := fun _ => fun
  | [d] => { results := [.lit (.bool true)], args := [d] }
  | _ => none }
def parserBackRow : OpenClaim := { program := "ytllkimdlmnjoiaagreatdoor", sum := "f8ef2841dd7e4a1bbddc0abcd5618f2bd55a8a0cbdb891805fcf65f14ae4e90e", func := "wayfarer/wayfarerlaw11.ParserBack", spec := "parserBack", inPlace := ["math/bits.Add64", "internal/abi.NoEscape"], unfollowed := true, recurses := true, named := ["wayfarer/tree.names"], loops := true, apart := false, laid := [("wayfarer/tree.names", laid_wayfarer_tree_names)] }
def ParserBackSaid : Prop := parserBackRow.holds Tryz.pinned (OpenSpec.ofChange parserBackSpec)

/-- ITS FALSE NEIGHBOUR: 'it returns false'. Refute it at one input. -/
def parserBackWrong : ChangeSpec := { name := "parserBack", fn := fun _ => fun
  | [d] => { results := [.lit (.bool false)], args := [d] }
  | _ => none }
def ParserBackWrongFalsely : Prop := parserBackRow.holds Tryz.pinned (OpenSpec.ofChange parserBackWrong)

/-- 'wayfarerlaw11.ParserRound': WHATEVER THE INPUT: true; the input reads as it did. -/
def parserRoundSpec : ChangeSpec := { name := "parserRound", fn := fun _ => fun
  | [d] => { results := [.lit (.bool true)], args := [d] }
  | _ => none }
def parserRoundRow : OpenClaim := { program := "ytllkimdlmnjoiaagreatdoor", sum := "f8ef2841dd7e4a1bbddc0abcd5618f2bd55a8a0cbdb891805fcf65f14ae4e90e", func := "wayfarer/wayfarerlaw11.ParserRound", spec := "parserRound", inPlace := ["math/bits.Add64", "internal/abi.NoEscape"], unfollowed := true, recurses := true, named := ["wayfarer/tree.names"], apart := false, laid := [("wayfarer/tree.names", laid_wayfarer_tree_names)] }
def ParserRoundSaid : Prop := parserRoundRow.holds Tryz.pinned (OpenSpec.ofChange parserRoundSpec)

/-- ITS FALSE NEIGHBOUR: 'it returns false'. Refute it at one input. -/
def parserRoundWrong : ChangeSpec := { name := "parserRound", fn := fun _ => fun
  | [d] => { results := [.lit (.bool false)], args := [d] }
  | _ => none }
def ParserRoundWrongFalsely : Prop := parserRoundRow.holds Tryz.pinned (OpenSpec.ofChange parserRoundWrong)

/-- 'wayfarerlaw11.ParserCuts': WHATEVER THE INPUT: true; the input reads as it did. -/
def parserCutsSpec : ChangeSpec := { name := "parserCuts", fn := fun _ => fun
  | [d1, d2, d3] => { results := [.lit (.bool true)], args := [d1, d2, d3] }
  | _ => none }
def parserCutsRow : OpenClaim := { program := "ytllkimdlmnjoiaagreatdoor", sum := "f8ef2841dd7e4a1bbddc0abcd5618f2bd55a8a0cbdb891805fcf65f14ae4e90e", func := "wayfarer/wayfarerlaw11.ParserCuts", spec := "parserCuts", inPlace := ["math/bits.Add64", "internal/abi.NoEscape"], unfollowed := true, recurses := true, named := ["wayfarer/tree.names"], loops := true, apart := false, laid := [("wayfarer/tree.names", laid_wayfarer_tree_names)] }
def ParserCutsSaid : Prop := parserCutsRow.holds Tryz.pinned (OpenSpec.ofChange parserCutsSpec)

/-- ITS FALSE NEIGHBOUR: 'it returns false'. Refute it at one input. -/
def parserCutsWrong : ChangeSpec := { name := "parserCuts", fn := fun _ => fun
  | [d1, d2, d3] => { results := [.lit (.bool false)], args := [d1, d2, d3] }
  | _ => none }
def ParserCutsWrongFalsely : Prop := parserCutsRow.holds Tryz.pinned (OpenSpec.ofChange parserCutsWrong)

/-- 'wayfarerlaw11.ParserLoose': WHATEVER THE INPUT: true; the input reads as it did. -/
def parserLooseSpec : ChangeSpec := { name := "parserLoose", fn := fun _ => fun
  | [d1, d2] => { results := [.lit (.bool true)], args := [d1, d2] }
  | _ => none }
def parserLooseRow : OpenClaim := { program := "ytllkimdlmnjoiaagreatdoor", sum := "f8ef2841dd7e4a1bbddc0abcd5618f2bd55a8a0cbdb891805fcf65f14ae4e90e", func := "wayfarer/wayfarerlaw11.ParserLoose", spec := "parserLoose", inPlace := ["math/bits.Add64", "internal/abi.NoEscape"], unfollowed := true, recurses := true, named := ["wayfarer/tree.names"], loops := true, apart := false, laid := [("wayfarer/tree.names", laid_wayfarer_tree_names)] }
def ParserLooseSaid : Prop := parserLooseRow.holds Tryz.pinned (OpenSpec.ofChange parserLooseSpec)

/-- ITS FALSE NEIGHBOUR: 'it returns false'. Refute it at one input. -/
def parserLooseWrong : ChangeSpec := { name := "parserLoose", fn := fun _ => fun
  | [d1, d2] => { results := [.lit (.bool false)], args := [d1, d2] }
  | _ => none }
def ParserLooseWrongFalsely : Prop := parserLooseRow.holds Tryz.pinned (OpenSpec.ofChange parserLooseWrong)

/-- 'wayfarerlaw11.ParserBounds': WHATEVER THE INPUT: true; the input reads as it did. -/
def parserBoundsSpec : ChangeSpec := { name := "parserBounds", fn := fun _ => fun
  | [d] => { results := [.lit (.bool true)], args := [d] }
  | _ => none }
def parserBoundsRow : OpenClaim := { program := "ytllkimdlmnjoiaagreatdoor", sum := "f8ef2841dd7e4a1bbddc0abcd5618f2bd55a8a0cbdb891805fcf65f14ae4e90e", func := "wayfarer/wayfarerlaw11.ParserBounds", spec := "parserBounds", inPlace := ["math/bits.Add64", "internal/abi.NoEscape"], unfollowed := true, recurses := true, named := ["wayfarer/tree.names"], apart := false, laid := [("wayfarer/tree.names", laid_wayfarer_tree_names)] }
def ParserBoundsSaid : Prop := parserBoundsRow.holds Tryz.pinned (OpenSpec.ofChange parserBoundsSpec)

/-- ITS FALSE NEIGHBOUR: 'it returns false'. Refute it at one input. -/
def parserBoundsWrong : ChangeSpec := { name := "parserBounds", fn := fun _ => fun
  | [d] => { results := [.lit (.bool false)], args := [d] }
  | _ => none }
def ParserBoundsWrongFalsely : Prop := parserBoundsRow.holds Tryz.pinned (OpenSpec.ofChange parserBoundsWrong)

/- THE SECOND FORM. 'bulk': how many values and letters a reading holds, each counted each time it is reached (what is shared counts as often as it is met; a slice's spare places count too). A statement '..UptoSaid' is the law's where the arguments, and the package variables that the reading takes, are together of bulk at most 1048576: NARROWER than '..Said'. Prove '..Said' where nothing that the law and all that it calls make is longer than what came in: it says more and counts as full. Else prove '..UptoSaid'. A law counts once. -/
mutual
def uptoBulk {H : Type} : DataW H → Nat
  | .lit (.string bytes) => bytes.length + 1
  | .lit _ => 1
  | .nil => 1
  | .ptr d => uptoBulk d + 1
  | .slice elems spare => uptoBulkAll elems + uptoBulkAll spare + 1
  | .agg parts => uptoBulkAll parts + 1
  | .iface _ d => uptoBulk d + 1
  | .map entries => uptoBulkEntries entries + 1
  | .held _ => 1
def uptoBulkAll {H : Type} : List (DataW H) → Nat
  | [] => 0
  | d :: r => uptoBulk d + uptoBulkAll r
def uptoBulkEntries {H : Type} : List (Lit × DataW H) → Nat
  | [] => 0
  | x :: r => uptoBulkEntry x + uptoBulkEntries r
def uptoBulkEntry {H : Type} : Lit × DataW H → Nat
  | (.string bytes, d) => bytes.length + uptoBulk d + 1
  | (_, d) => uptoBulk d + 1
 end
def uptoSmall : (H : Type) → List (DataW H) → Bool := fun _ ds => decide (uptoBulkAll ds ≤ 1048576)
def OpenSpec.upto (s : _root_.Go.ChangeSpec) : _root_.Go.OpenSpec := { _root_.Go.OpenSpec.ofChange s with cond := some uptoSmall }

/-- 'wayfarerlaw11.ParserBack', WHERE WHAT IT READS IS OF BULK AT MOST 1048576: true; the input reads as it did. -/
def parserBackUptoRow : OpenClaim := { program := "ytllkimdlmnjoiaagreatdoor", sum := "f8ef2841dd7e4a1bbddc0abcd5618f2bd55a8a0cbdb891805fcf65f14ae4e90e", func := "wayfarer/wayfarerlaw11.ParserBack", spec := "parserBack", inPlace := ["math/bits.Add64", "internal/abi.NoEscape"], unfollowed := true, recurses := true, named := ["wayfarer/tree.names"], loops := true, apart := false, laid := [("wayfarer/tree.names", laid_wayfarer_tree_names)], narrowed := true }
def ParserBackUptoSaid : Prop := parserBackUptoRow.holds Tryz.pinned (OpenSpec.upto parserBackSpec)

/-- 'wayfarerlaw11.ParserRound', WHERE WHAT IT READS IS OF BULK AT MOST 1048576: true; the input reads as it did. -/
def parserRoundUptoRow : OpenClaim := { program := "ytllkimdlmnjoiaagreatdoor", sum := "f8ef2841dd7e4a1bbddc0abcd5618f2bd55a8a0cbdb891805fcf65f14ae4e90e", func := "wayfarer/wayfarerlaw11.ParserRound", spec := "parserRound", inPlace := ["math/bits.Add64", "internal/abi.NoEscape"], unfollowed := true, recurses := true, named := ["wayfarer/tree.names"], apart := false, laid := [("wayfarer/tree.names", laid_wayfarer_tree_names)], narrowed := true }
def ParserRoundUptoSaid : Prop := parserRoundUptoRow.holds Tryz.pinned (OpenSpec.upto parserRoundSpec)

/-- 'wayfarerlaw11.ParserCuts', WHERE WHAT IT READS IS OF BULK AT MOST 1048576: true; the input reads as it did. -/
def parserCutsUptoRow : OpenClaim := { program := "ytllkimdlmnjoiaagreatdoor", sum := "f8ef2841dd7e4a1bbddc0abcd5618f2bd55a8a0cbdb891805fcf65f14ae4e90e", func := "wayfarer/wayfarerlaw11.ParserCuts", spec := "parserCuts", inPlace := ["math/bits.Add64", "internal/abi.NoEscape"], unfollowed := true, recurses := true, named := ["wayfarer/tree.names"], loops := true, apart := false, laid := [("wayfarer/tree.names", laid_wayfarer_tree_names)], narrowed := true }
def ParserCutsUptoSaid : Prop := parserCutsUptoRow.holds Tryz.pinned (OpenSpec.upto parserCutsSpec)

/-- 'wayfarerlaw11.ParserLoose', WHERE WHAT IT READS IS OF BULK AT MOST 1048576: true; the input reads as it did. -/
def parserLooseUptoRow : OpenClaim := { program := "ytllkimdlmnjoiaagreatdoor", sum := "f8ef2841dd7e4a1bbddc0abcd5618f2bd55a8a0cbdb891805fcf65f14ae4e90e", func := "wayfarer/wayfarerlaw11.ParserLoose", spec := "parserLoose", inPlace := ["math/bits.Add64", "internal/abi.NoEscape"], unfollowed := true, recurses := true, named := ["wayfarer/tree.names"], loops := true, apart := false, laid := [("wayfarer/tree.names", laid_wayfarer_tree_names)], narrowed := true }
def ParserLooseUptoSaid : Prop := parserLooseUptoRow.holds Tryz.pinned (OpenSpec.upto parserLooseSpec)

/-- 'wayfarerlaw11.ParserBounds', WHERE WHAT IT READS IS OF BULK AT MOST 1048576: true; the input reads as it did. -/
def parserBoundsUptoRow : OpenClaim := { program := "ytllkimdlmnjoiaagreatdoor", sum := "f8ef2841dd7e4a1bbddc0abcd5618f2bd55a8a0cbdb891805fcf65f14ae4e90e", func := "wayfarer/wayfarerlaw11.ParserBounds", spec := "parserBounds", inPlace := ["math/bits.Add64", "internal/abi.NoEscape"], unfollowed := true, recurses := true, named := ["wayfarer/tree.names"], apart := false, laid := [("wayfarer/tree.names", laid_wayfarer_tree_names)], narrowed := true }
def ParserBoundsUptoSaid : Prop := parserBoundsUptoRow.holds Tryz.pinned (OpenSpec.upto parserBoundsSpec)

end Rows
end Go.Proofs.YtllkimdlmnjoiaaGreatDoor

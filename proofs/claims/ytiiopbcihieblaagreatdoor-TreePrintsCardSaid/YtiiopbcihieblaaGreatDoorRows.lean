/-
  NARROWER THAN 'FOR EVERY INPUT', by the rows' own cells (each row's printed sentence says how): TreePrints: loops, laid · TreeSame: loops, laid · TreeApart: loops, laid · TreeHurt: loops, laid.
  DERIVED. THE GIVEN ROWS OF THIS SEAT. 4 by the template 'for every input the law returns true; each argument reads behind the call as it read before'; 0 by the template 'total and deterministic' (their statements: YtiiopbcihieblaaGreatDoorTotals.lean).
  GIVEN WITH THE SEED: the statements are not yours to turn. If you find one false, say at which input.
  Laid BY PROGRAM, IN A SANDBOX (cutbox-rows.mjs): the forced cells as the released guide's own fill.sh prints them over the translation 879d9a5bb2c6ecad… (all of the seat's roots in one cut). By AI agents, Wed Nov 11 2026. No macro, syntax, notation, axiom, sorry.
-/
import Derived.Test.YtiiopbcihieblaaGreatDoorChecked
import GoSem.Claim
import GoSem.ClaimJoined
import GoSem.ClaimMapViews
import Derived.JoinedTies
import Derived.KernelRfl
namespace Go.Proofs.YtiiopbcihieblaaGreatDoor
/- THE CELL 'sum', in the pinned program and in every row, IS THE sha256 OF THE DUMP (.gsa) THAT YtiiopbcihieblaaGreatDoorProg.lean LOADS. Nothing in Lean hashes anything: it is a label: what it is worth is what the hold of that sum in a sandbox is worth. -/
noncomputable def Tryz.pinned : Pinned := { name := "ytiiopbcihieblaagreatdoor", sum := "879d9a5bb2c6ecad8f9f14225844c7059e1ba88a08e43d8fd8c9b92034ca3935", checked := Tryz.checked }
namespace Rows
def none {H : Type} : Left H := { results := [], args := [] }

/- WHAT THE LISTED PACKAGE-LEVEL VARIABLES READ AS WHEN THE CALL BEGINS. Each datum BY PROGRAM (the guide's laid-datum.mjs) off the statement by which the dump's own 'gosem.cut.vars' lays the variable. In a bare row this is a premise. The card (YtiiopbcihieblaaGreatDoorCards.lean) ties it to the program's text. -/
def laid_wayfarer_tree_names {H : Type} : DataW H := .agg [.lit (.string []), .lit (.string [101, 113]), .lit (.string [110, 101, 113]), .lit (.string [108, 116]), .lit (.string [108, 116, 101]), .lit (.string [103, 116]), .lit (.string [103, 116, 101]), .lit (.string [98, 101, 116, 119, 101, 101, 110]), .lit (.string [105, 110, 115, 105, 100, 101]), .lit (.string [111, 117, 116, 115, 105, 100, 101]), .lit (.string [119, 105, 116, 104, 105, 110]), .lit (.string [119, 105, 116, 104, 111, 117, 116]), .lit (.string [110, 111, 116]), .lit (.string [97, 110, 100]), .lit (.string [111, 114])]

/-- 'wayfarerlaw10.TreePrints': WHATEVER THE INPUT: true; the input reads as it did. -/
def treePrintsSpec : ChangeSpec := { name := "treePrints", fn := fun _ => fun
  | [d] => { results := [.lit (.bool true)], args := [d] }
  | _ => none }
def treePrintsRow : OpenClaim := { program := "ytiiopbcihieblaagreatdoor", sum := "879d9a5bb2c6ecad8f9f14225844c7059e1ba88a08e43d8fd8c9b92034ca3935", func := "wayfarer/wayfarerlaw10.TreePrints", spec := "treePrints", inPlace := ["internal/abi.NoEscape"], unfollowed := true, recurses := true, named := ["wayfarer/tree.names"], loops := true, apart := false, laid := [("wayfarer/tree.names", laid_wayfarer_tree_names)] }
def TreePrintsSaid : Prop := treePrintsRow.holds Tryz.pinned (OpenSpec.ofChange treePrintsSpec)

/-- ITS FALSE NEIGHBOUR: 'it returns false'. Refute it at one input. -/
def treePrintsWrong : ChangeSpec := { name := "treePrints", fn := fun _ => fun
  | [d] => { results := [.lit (.bool false)], args := [d] }
  | _ => none }
def TreePrintsWrongFalsely : Prop := treePrintsRow.holds Tryz.pinned (OpenSpec.ofChange treePrintsWrong)

/-- 'wayfarerlaw10.TreeSame': WHATEVER THE INPUT: true; the input reads as it did. -/
def treeSameSpec : ChangeSpec := { name := "treeSame", fn := fun _ => fun
  | [d1, d2] => { results := [.lit (.bool true)], args := [d1, d2] }
  | _ => none }
def treeSameRow : OpenClaim := { program := "ytiiopbcihieblaagreatdoor", sum := "879d9a5bb2c6ecad8f9f14225844c7059e1ba88a08e43d8fd8c9b92034ca3935", func := "wayfarer/wayfarerlaw10.TreeSame", spec := "treeSame", inPlace := ["internal/abi.NoEscape"], unfollowed := true, recurses := true, named := ["wayfarer/tree.names"], loops := true, apart := false, laid := [("wayfarer/tree.names", laid_wayfarer_tree_names)] }
def TreeSameSaid : Prop := treeSameRow.holds Tryz.pinned (OpenSpec.ofChange treeSameSpec)

/-- ITS FALSE NEIGHBOUR: 'it returns false'. Refute it at one input. -/
def treeSameWrong : ChangeSpec := { name := "treeSame", fn := fun _ => fun
  | [d1, d2] => { results := [.lit (.bool false)], args := [d1, d2] }
  | _ => none }
def TreeSameWrongFalsely : Prop := treeSameRow.holds Tryz.pinned (OpenSpec.ofChange treeSameWrong)

/-- 'wayfarerlaw10.TreeApart': WHATEVER THE INPUT: true; the input reads as it did. -/
def treeApartSpec : ChangeSpec := { name := "treeApart", fn := fun _ => fun
  | [d1, d2] => { results := [.lit (.bool true)], args := [d1, d2] }
  | _ => none }
def treeApartRow : OpenClaim := { program := "ytiiopbcihieblaagreatdoor", sum := "879d9a5bb2c6ecad8f9f14225844c7059e1ba88a08e43d8fd8c9b92034ca3935", func := "wayfarer/wayfarerlaw10.TreeApart", spec := "treeApart", inPlace := ["internal/abi.NoEscape"], unfollowed := true, recurses := true, named := ["wayfarer/tree.names"], loops := true, apart := false, laid := [("wayfarer/tree.names", laid_wayfarer_tree_names)] }
def TreeApartSaid : Prop := treeApartRow.holds Tryz.pinned (OpenSpec.ofChange treeApartSpec)

/-- ITS FALSE NEIGHBOUR: 'it returns false'. Refute it at one input. -/
def treeApartWrong : ChangeSpec := { name := "treeApart", fn := fun _ => fun
  | [d1, d2] => { results := [.lit (.bool false)], args := [d1, d2] }
  | _ => none }
def TreeApartWrongFalsely : Prop := treeApartRow.holds Tryz.pinned (OpenSpec.ofChange treeApartWrong)

/-- 'wayfarerlaw10.TreeHurt': WHATEVER THE INPUT: true; the input reads as it did. -/
def treeHurtSpec : ChangeSpec := { name := "treeHurt", fn := fun _ => fun
  | [d1, d2, d3] => { results := [.lit (.bool true)], args := [d1, d2, d3] }
  | _ => none }
def treeHurtRow : OpenClaim := { program := "ytiiopbcihieblaagreatdoor", sum := "879d9a5bb2c6ecad8f9f14225844c7059e1ba88a08e43d8fd8c9b92034ca3935", func := "wayfarer/wayfarerlaw10.TreeHurt", spec := "treeHurt", inPlace := ["internal/abi.NoEscape"], unfollowed := true, recurses := true, named := ["wayfarer/tree.names"], loops := true, apart := false, laid := [("wayfarer/tree.names", laid_wayfarer_tree_names)] }
def TreeHurtSaid : Prop := treeHurtRow.holds Tryz.pinned (OpenSpec.ofChange treeHurtSpec)

/-- ITS FALSE NEIGHBOUR: 'it returns false'. Refute it at one input. -/
def treeHurtWrong : ChangeSpec := { name := "treeHurt", fn := fun _ => fun
  | [d1, d2, d3] => { results := [.lit (.bool false)], args := [d1, d2, d3] }
  | _ => none }
def TreeHurtWrongFalsely : Prop := treeHurtRow.holds Tryz.pinned (OpenSpec.ofChange treeHurtWrong)

/- THE SECOND FORM. 'bulk': how many values and letters a reading holds, each counted each time it is reached (what is shared counts as often as it is met; a slice's spare places count too). A statement '..UptoSaid' is the law's where the arguments, and the package variables that the reading takes, are together of bulk at most 1048576: NARROWER than '..Said'. Prove '..Said' where nothing that the law and all that it calls make is longer than what came in: it says more and counts as full. Else prove '..UptoSaid'. A law counts once. -/
mutual
def uptoBulk {H : Type} : DataW H → Nat
  | .lit (.string bytes) => bytes.length + 1
  | .lit _ => 1
  | .nil => 1
  | .ptr d => uptoBulk d + 1
  | .slice elems spare => uptoBulkAll elems + uptoBulkAll spare + 1
  | .agg parts => uptoBulkAll parts + 1
  | .iface _ d => uptoBulk d + 1
  | .map entries => uptoBulkEntries entries + 1
  | .held _ => 1
def uptoBulkAll {H : Type} : List (DataW H) → Nat
  | [] => 0
  | d :: r => uptoBulk d + uptoBulkAll r
def uptoBulkEntries {H : Type} : List (Lit × DataW H) → Nat
  | [] => 0
  | x :: r => uptoBulkEntry x + uptoBulkEntries r
def uptoBulkEntry {H : Type} : Lit × DataW H → Nat
  | (.string bytes, d) => bytes.length + uptoBulk d + 1
  | (_, d) => uptoBulk d + 1
 end
def uptoSmall : (H : Type) → List (DataW H) → Bool := fun _ ds => decide (uptoBulkAll ds ≤ 1048576)
def OpenSpec.upto (s : _root_.Go.ChangeSpec) : _root_.Go.OpenSpec := { _root_.Go.OpenSpec.ofChange s with cond := some uptoSmall }

/-- 'wayfarerlaw10.TreePrints', WHERE WHAT IT READS IS OF BULK AT MOST 1048576: true; the input reads as it did. -/
def treePrintsUptoRow : OpenClaim := { program := "ytiiopbcihieblaagreatdoor", sum := "879d9a5bb2c6ecad8f9f14225844c7059e1ba88a08e43d8fd8c9b92034ca3935", func := "wayfarer/wayfarerlaw10.TreePrints", spec := "treePrints", inPlace := ["internal/abi.NoEscape"], unfollowed := true, recurses := true, named := ["wayfarer/tree.names"], loops := true, apart := false, laid := [("wayfarer/tree.names", laid_wayfarer_tree_names)], narrowed := true }
def TreePrintsUptoSaid : Prop := treePrintsUptoRow.holds Tryz.pinned (OpenSpec.upto treePrintsSpec)

/-- 'wayfarerlaw10.TreeSame', WHERE WHAT IT READS IS OF BULK AT MOST 1048576: true; the input reads as it did. -/
def treeSameUptoRow : OpenClaim := { program := "ytiiopbcihieblaagreatdoor", sum := "879d9a5bb2c6ecad8f9f14225844c7059e1ba88a08e43d8fd8c9b92034ca3935", func := "wayfarer/wayfarerlaw10.TreeSame", spec := "treeSame", inPlace := ["internal/abi.NoEscape"], unfollowed := true, recurses := true, named := ["wayfarer/tree.names"], loops := true, apart := false, laid := [("wayfarer/tree.names", laid_wayfarer_tree_names)], narrowed := true }
def TreeSameUptoSaid : Prop := treeSameUptoRow.holds Tryz.pinned (OpenSpec.upto treeSameSpec)

/-- 'wayfarerlaw10.TreeApart', WHERE WHAT IT READS IS OF BULK AT MOST 1048576: true; the input reads as it did. -/
def treeApartUptoRow : OpenClaim := { program := "ytiiopbcihieblaagreatdoor", sum := "879d9a5bb2c6ecad8f9f14225844c7059e1ba88a08e43d8fd8c9b92034ca3935", func := "wayfarer/wayfarerlaw10.TreeApart", spec := "treeApart", inPlace := ["internal/abi.NoEscape"], unfollowed := true, recurses := true, named := ["wayfarer/tree.names"], loops := true, apart := false, laid := [("wayfarer/tree.names", laid_wayfarer_tree_names)], narrowed := true }
def TreeApartUptoSaid : Prop := treeApartUptoRow.holds Tryz.pinned (OpenSpec.upto treeApartSpec)

/-- 'wayfarerlaw10.TreeHurt', WHERE WHAT IT READS IS OF BULK AT MOST 1048576: true; the input reads as it did. -/
def treeHurtUptoRow : OpenClaim := { program := "ytiiopbcihieblaagreatdoor", sum := "879d9a5bb2c6ecad8f9f14225844c7059e1ba88a08e43d8fd8c9b92034ca3935", func := "wayfarer/wayfarerlaw10.TreeHurt", spec := "treeHurt", inPlace := ["internal/abi.NoEscape"], unfollowed := true, recurses := true, named := ["wayfarer/tree.names"], loops := true, apart := false, laid := [("wayfarer/tree.names", laid_wayfarer_tree_names)], narrowed := true }
def TreeHurtUptoSaid : Prop := treeHurtUptoRow.holds Tryz.pinned (OpenSpec.upto treeHurtSpec)

end Rows
end Go.Proofs.YtiiopbcihieblaaGreatDoor

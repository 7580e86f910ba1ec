/-
  DERIVED. GIVEN WITH THE SEED: THE CARDS: each row of YtiiopbcihieblaaGreatDoorRows.lean that lists a variable, with what it lists TIED to the program's text (the seventh form; the later family's looks); each row that meets fmt, with fmt's text TOLD by the authors' own Lean function (tested against real Go, not proved from fmt's source: count such statements apart). THE CARD IS WHAT COUNTS. Prove the row's statement (the work); the ties are given (YtiiopbcihieblaaGreatDoorTie.lean); close each card by the builder's one call (the guide's Derived/Test/ToyasCard.lean, 'card_holds'). Laid BY PROGRAM, IN A SANDBOX (cutbox-door.mjs). By AI agents, Wed Nov 11 2026. No macro, syntax, notation, axiom, sorry.
-/
import Derived.Test.YtiiopbcihieblaaGreatDoorRows
import GoSem.ClaimSeven
namespace Go.Proofs.YtiiopbcihieblaaGreatDoor
namespace Rows

/-- THE TIED CARD OF 'wayfarerlaw10.TreePrints'. -/
def treePrintsCard : Claim7 := { stood := { row := treePrintsRow, standIns := [], harness := (true, "0eb383009328d8aaf5c2188f335b03e8ea965c9c674f9a754cffef623abea666"), looks := false }, kinds := [], alts := [], laidByText := true, laidKinds := [.data], laidTests := true, laidLooks := .later }
def TreePrintsCardSaid : Prop := Claim7.holds Tryz.pinned (.plain (OpenSpec.ofChange treePrintsSpec)) treePrintsCard

/-- THE TIED CARD OF 'wayfarerlaw10.TreeSame'. -/
def treeSameCard : Claim7 := { stood := { row := treeSameRow, standIns := [], harness := (true, "0eb383009328d8aaf5c2188f335b03e8ea965c9c674f9a754cffef623abea666"), looks := false }, kinds := [], alts := [], laidByText := true, laidKinds := [.data], laidTests := true, laidLooks := .later }
def TreeSameCardSaid : Prop := Claim7.holds Tryz.pinned (.plain (OpenSpec.ofChange treeSameSpec)) treeSameCard

/-- THE TIED CARD OF 'wayfarerlaw10.TreeApart'. -/
def treeApartCard : Claim7 := { stood := { row := treeApartRow, standIns := [], harness := (true, "0eb383009328d8aaf5c2188f335b03e8ea965c9c674f9a754cffef623abea666"), looks := false }, kinds := [], alts := [], laidByText := true, laidKinds := [.data], laidTests := true, laidLooks := .later }
def TreeApartCardSaid : Prop := Claim7.holds Tryz.pinned (.plain (OpenSpec.ofChange treeApartSpec)) treeApartCard

/-- THE TIED CARD OF 'wayfarerlaw10.TreeHurt'. -/
def treeHurtCard : Claim7 := { stood := { row := treeHurtRow, standIns := [], harness := (true, "0eb383009328d8aaf5c2188f335b03e8ea965c9c674f9a754cffef623abea666"), looks := false }, kinds := [], alts := [], laidByText := true, laidKinds := [.data], laidTests := true, laidLooks := .later }
def TreeHurtCardSaid : Prop := Claim7.holds Tryz.pinned (.plain (OpenSpec.ofChange treeHurtSpec)) treeHurtCard

/-- THE SECOND FORM's CARD OF 'wayfarerlaw10.TreePrints'. -/
def treePrintsUptoCard : Claim7 := { stood := { row := treePrintsUptoRow, standIns := [], harness := (true, "0eb383009328d8aaf5c2188f335b03e8ea965c9c674f9a754cffef623abea666"), looks := false }, kinds := [], alts := [], laidByText := true, laidKinds := [.data], laidTests := true, laidLooks := .later }
def TreePrintsUptoCardSaid : Prop := Claim7.holds Tryz.pinned (.plain (OpenSpec.upto treePrintsSpec)) treePrintsUptoCard

/-- THE SECOND FORM's CARD OF 'wayfarerlaw10.TreeSame'. -/
def treeSameUptoCard : Claim7 := { stood := { row := treeSameUptoRow, standIns := [], harness := (true, "0eb383009328d8aaf5c2188f335b03e8ea965c9c674f9a754cffef623abea666"), looks := false }, kinds := [], alts := [], laidByText := true, laidKinds := [.data], laidTests := true, laidLooks := .later }
def TreeSameUptoCardSaid : Prop := Claim7.holds Tryz.pinned (.plain (OpenSpec.upto treeSameSpec)) treeSameUptoCard

/-- THE SECOND FORM's CARD OF 'wayfarerlaw10.TreeApart'. -/
def treeApartUptoCard : Claim7 := { stood := { row := treeApartUptoRow, standIns := [], harness := (true, "0eb383009328d8aaf5c2188f335b03e8ea965c9c674f9a754cffef623abea666"), looks := false }, kinds := [], alts := [], laidByText := true, laidKinds := [.data], laidTests := true, laidLooks := .later }
def TreeApartUptoCardSaid : Prop := Claim7.holds Tryz.pinned (.plain (OpenSpec.upto treeApartSpec)) treeApartUptoCard

/-- THE SECOND FORM's CARD OF 'wayfarerlaw10.TreeHurt'. -/
def treeHurtUptoCard : Claim7 := { stood := { row := treeHurtUptoRow, standIns := [], harness := (true, "0eb383009328d8aaf5c2188f335b03e8ea965c9c674f9a754cffef623abea666"), looks := false }, kinds := [], alts := [], laidByText := true, laidKinds := [.data], laidTests := true, laidLooks := .later }
def TreeHurtUptoCardSaid : Prop := Claim7.holds Tryz.pinned (.plain (OpenSpec.upto treeHurtSpec)) treeHurtUptoCard
end Rows
end Go.Proofs.YtiiopbcihieblaaGreatDoor

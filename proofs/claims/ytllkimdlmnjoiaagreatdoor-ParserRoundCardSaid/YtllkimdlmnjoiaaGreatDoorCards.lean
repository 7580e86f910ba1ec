/-
  DERIVED. GIVEN WITH THE SEED: THE CARDS: each row of YtllkimdlmnjoiaaGreatDoorRows.lean that lists a variable, with what it lists TIED to the program's text (the seventh form; the later family's looks); each row that meets fmt, with fmt's text TOLD by the authors' own Lean function (tested against real Go, not proved from fmt's source: count such statements apart). THE CARD IS WHAT COUNTS. Prove the row's statement (the work); the ties are given (YtllkimdlmnjoiaaGreatDoorTie.lean); close each card by the builder's one call (the guide's Derived/Test/ToyasCard.lean, 'card_holds'). Laid BY PROGRAM, IN A SANDBOX (cutbox-door.mjs). By AI agents, Wed Nov 11 2026. No macro, syntax, notation, axiom, sorry.
-/
import Derived.Test.YtllkimdlmnjoiaaGreatDoorRows
import GoSem.ClaimSeven
namespace Go.Proofs.YtllkimdlmnjoiaaGreatDoor
namespace Rows

/-- THE TIED CARD OF 'wayfarerlaw11.ParserBack'. -/
def parserBackCard : Claim7 := { stood := { row := parserBackRow, standIns := [], harness := (true, "221a5bfdfe50e279f5875fdb3cddd8f769181687a56e6bd004360601ee28c355"), looks := false }, kinds := [], alts := [], laidByText := true, laidKinds := [.data], laidTests := true, laidLooks := .later }
def ParserBackCardSaid : Prop := Claim7.holds Tryz.pinned (.plain (OpenSpec.ofChange parserBackSpec)) parserBackCard

/-- THE TIED CARD OF 'wayfarerlaw11.ParserRound'. -/
def parserRoundCard : Claim7 := { stood := { row := parserRoundRow, standIns := [], harness := (true, "221a5bfdfe50e279f5875fdb3cddd8f769181687a56e6bd004360601ee28c355"), looks := false }, kinds := [], alts := [], laidByText := true, laidKinds := [.data], laidTests := true, laidLooks := .later }
def ParserRoundCardSaid : Prop := Claim7.holds Tryz.pinned (.plain (OpenSpec.ofChange parserRoundSpec)) parserRoundCard

/-- THE TIED CARD OF 'wayfarerlaw11.ParserCuts'. -/
def parserCutsCard : Claim7 := { stood := { row := parserCutsRow, standIns := [], harness := (true, "221a5bfdfe50e279f5875fdb3cddd8f769181687a56e6bd004360601ee28c355"), looks := false }, kinds := [], alts := [], laidByText := true, laidKinds := [.data], laidTests := true, laidLooks := .later }
def ParserCutsCardSaid : Prop := Claim7.holds Tryz.pinned (.plain (OpenSpec.ofChange parserCutsSpec)) parserCutsCard

/-- THE TIED CARD OF 'wayfarerlaw11.ParserLoose'. -/
def parserLooseCard : Claim7 := { stood := { row := parserLooseRow, standIns := [], harness := (true, "221a5bfdfe50e279f5875fdb3cddd8f769181687a56e6bd004360601ee28c355"), looks := false }, kinds := [], alts := [], laidByText := true, laidKinds := [.data], laidTests := true, laidLooks := .later }
def ParserLooseCardSaid : Prop := Claim7.holds Tryz.pinned (.plain (OpenSpec.ofChange parserLooseSpec)) parserLooseCard

/-- THE TIED CARD OF 'wayfarerlaw11.ParserBounds'. -/
def parserBoundsCard : Claim7 := { stood := { row := parserBoundsRow, standIns := [], harness := (true, "221a5bfdfe50e279f5875fdb3cddd8f769181687a56e6bd004360601ee28c355"), looks := false }, kinds := [], alts := [], laidByText := true, laidKinds := [.data], laidTests := true, laidLooks := .later }
def ParserBoundsCardSaid : Prop := Claim7.holds Tryz.pinned (.plain (OpenSpec.ofChange parserBoundsSpec)) parserBoundsCard

/-- THE SECOND FORM's CARD OF 'wayfarerlaw11.ParserBack'. -/
def parserBackUptoCard : Claim7 := { stood := { row := parserBackUptoRow, standIns := [], harness := (true, "221a5bfdfe50e279f5875fdb3cddd8f769181687a56e6bd004360601ee28c355"), looks := false }, kinds := [], alts := [], laidByText := true, laidKinds := [.data], laidTests := true, laidLooks := .later }
def ParserBackUptoCardSaid : Prop := Claim7.holds Tryz.pinned (.plain (OpenSpec.upto parserBackSpec)) parserBackUptoCard

/-- THE SECOND FORM's CARD OF 'wayfarerlaw11.ParserRound'. -/
def parserRoundUptoCard : Claim7 := { stood := { row := parserRoundUptoRow, standIns := [], harness := (true, "221a5bfdfe50e279f5875fdb3cddd8f769181687a56e6bd004360601ee28c355"), looks := false }, kinds := [], alts := [], laidByText := true, laidKinds := [.data], laidTests := true, laidLooks := .later }
def ParserRoundUptoCardSaid : Prop := Claim7.holds Tryz.pinned (.plain (OpenSpec.upto parserRoundSpec)) parserRoundUptoCard

/-- THE SECOND FORM's CARD OF 'wayfarerlaw11.ParserCuts'. -/
def parserCutsUptoCard : Claim7 := { stood := { row := parserCutsUptoRow, standIns := [], harness := (true, "221a5bfdfe50e279f5875fdb3cddd8f769181687a56e6bd004360601ee28c355"), looks := false }, kinds := [], alts := [], laidByText := true, laidKinds := [.data], laidTests := true, laidLooks := .later }
def ParserCutsUptoCardSaid : Prop := Claim7.holds Tryz.pinned (.plain (OpenSpec.upto parserCutsSpec)) parserCutsUptoCard

/-- THE SECOND FORM's CARD OF 'wayfarerlaw11.ParserLoose'. -/
def parserLooseUptoCard : Claim7 := { stood := { row := parserLooseUptoRow, standIns := [], harness := (true, "221a5bfdfe50e279f5875fdb3cddd8f769181687a56e6bd004360601ee28c355"), looks := false }, kinds := [], alts := [], laidByText := true, laidKinds := [.data], laidTests := true, laidLooks := .later }
def ParserLooseUptoCardSaid : Prop := Claim7.holds Tryz.pinned (.plain (OpenSpec.upto parserLooseSpec)) parserLooseUptoCard

/-- THE SECOND FORM's CARD OF 'wayfarerlaw11.ParserBounds'. -/
def parserBoundsUptoCard : Claim7 := { stood := { row := parserBoundsUptoRow, standIns := [], harness := (true, "221a5bfdfe50e279f5875fdb3cddd8f769181687a56e6bd004360601ee28c355"), looks := false }, kinds := [], alts := [], laidByText := true, laidKinds := [.data], laidTests := true, laidLooks := .later }
def ParserBoundsUptoCardSaid : Prop := Claim7.holds Tryz.pinned (.plain (OpenSpec.upto parserBoundsSpec)) parserBoundsUptoCard
end Rows
end Go.Proofs.YtllkimdlmnjoiaaGreatDoor

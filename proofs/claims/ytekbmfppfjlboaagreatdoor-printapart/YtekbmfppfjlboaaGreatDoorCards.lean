/-
  DERIVED. GIVEN WITH THE SEED: THE CARDS: each row of YtekbmfppfjlboaaGreatDoorRows.lean that lists a variable, with what it lists TIED to the program's text (the seventh form; the later family's looks); each row that meets fmt, with fmt's text TOLD by the authors' own Lean function (tested against real Go, not proved from fmt's source: count such statements apart). THE CARD IS WHAT COUNTS. Prove the row's statement (the work); the ties are given (YtekbmfppfjlboaaGreatDoorTie.lean); close each card by the builder's one call (the guide's Derived/Test/ToyasCard.lean, 'card_holds'). Laid BY PROGRAM, IN A SANDBOX (cutbox-door.mjs). By AI agents, Wed Nov 11 2026. No macro, syntax, notation, axiom, sorry.
-/
import Derived.Test.YtekbmfppfjlboaaGreatDoorRows
import GoSem.ClaimSeven
namespace Go.Proofs.YtekbmfppfjlboaaGreatDoor
namespace Rows

/-- THE TIED CARD OF 'scruplelaw18.PrintTrees'. -/
def printTreesCard : Claim7 := { stood := { row := printTreesRow, standIns := [], harness := (true, "60975efd7361058efaac5ec4ebc5fb7083ae4bb04c53564cfed379f2b366c4a0"), looks := false }, kinds := [], alts := [], laidByText := true, laidKinds := [.data, .data, .data], laidTests := true, laidLooks := .later }
def PrintTreesCardSaid : Prop := Claim7.holds Tryz.pinned (.plain (OpenSpec.ofChange printTreesSpec)) printTreesCard

/-- THE TIED CARD OF 'scruplelaw18.PrintSames'. -/
def printSamesCard : Claim7 := { stood := { row := printSamesRow, standIns := [], harness := (true, "60975efd7361058efaac5ec4ebc5fb7083ae4bb04c53564cfed379f2b366c4a0"), looks := false }, kinds := [], alts := [], laidByText := true, laidKinds := [.data, .data, .data], laidTests := true, laidLooks := .later }
def PrintSamesCardSaid : Prop := Claim7.holds Tryz.pinned (.plain (OpenSpec.ofChange printSamesSpec)) printSamesCard

/-- THE TIED CARD OF 'scruplelaw18.PrintApart'. -/
def printApartCard : Claim7 := { stood := { row := printApartRow, standIns := [], harness := (true, "60975efd7361058efaac5ec4ebc5fb7083ae4bb04c53564cfed379f2b366c4a0"), looks := false }, kinds := [], alts := [], laidByText := true, laidKinds := [.data, .data, .data], laidTests := true, laidLooks := .later }
def PrintApartCardSaid : Prop := Claim7.holds Tryz.pinned (.plain (OpenSpec.ofChange printApartSpec)) printApartCard

/-- THE SECOND FORM's CARD OF 'scruplelaw18.PrintTrees'. -/
def printTreesUptoCard : Claim7 := { stood := { row := printTreesUptoRow, standIns := [], harness := (true, "60975efd7361058efaac5ec4ebc5fb7083ae4bb04c53564cfed379f2b366c4a0"), looks := false }, kinds := [], alts := [], laidByText := true, laidKinds := [.data, .data, .data], laidTests := true, laidLooks := .later }
def PrintTreesUptoCardSaid : Prop := Claim7.holds Tryz.pinned (.plain (OpenSpec.upto printTreesSpec)) printTreesUptoCard

/-- THE SECOND FORM's CARD OF 'scruplelaw18.PrintSames'. -/
def printSamesUptoCard : Claim7 := { stood := { row := printSamesUptoRow, standIns := [], harness := (true, "60975efd7361058efaac5ec4ebc5fb7083ae4bb04c53564cfed379f2b366c4a0"), looks := false }, kinds := [], alts := [], laidByText := true, laidKinds := [.data, .data, .data], laidTests := true, laidLooks := .later }
def PrintSamesUptoCardSaid : Prop := Claim7.holds Tryz.pinned (.plain (OpenSpec.upto printSamesSpec)) printSamesUptoCard

/-- THE SECOND FORM's CARD OF 'scruplelaw18.PrintApart'. -/
def printApartUptoCard : Claim7 := { stood := { row := printApartUptoRow, standIns := [], harness := (true, "60975efd7361058efaac5ec4ebc5fb7083ae4bb04c53564cfed379f2b366c4a0"), looks := false }, kinds := [], alts := [], laidByText := true, laidKinds := [.data, .data, .data], laidTests := true, laidLooks := .later }
def PrintApartUptoCardSaid : Prop := Claim7.holds Tryz.pinned (.plain (OpenSpec.upto printApartSpec)) printApartUptoCard
end Rows
end Go.Proofs.YtekbmfppfjlboaaGreatDoor

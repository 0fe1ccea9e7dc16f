/-
  DERIVED. GIVEN WITH THE SEED: THE CARDS: each row of YtmigfhigekfeeaaDoorRows.lean that lists a variable, with what it lists TIED to the program's text (the seventh form; the later family's looks); each row that meets fmt, with fmt's text TOLD by the authors' own Lean function (tested against real Go, not proved from fmt's source: count such statements apart). THE CARD IS WHAT COUNTS. Prove the row's statement (the work); the ties are given (YtmigfhigekfeeaaDoorTie.lean); close each card by the builder's one call (the guide's Derived/Test/ToyasCard.lean, 'card_holds'). Laid BY PROGRAM, IN A SANDBOX (cutbox-door.mjs). By AI agents, Wed Nov 11 2026. No macro, syntax, notation, axiom, sorry.
-/
import Derived.Test.YtmigfhigekfeeaaDoorRows
import GoSem.ClaimSeven
namespace Go.Proofs.YtmigfhigekfeeaaDoor
namespace Rows

/-- THE TIED CARD OF 'scruplelaw11.GasCosts'. -/
def gasCostsCard : Claim7 := { stood := { row := gasCostsRow, standIns := [], harness := (true, "1c6301808132bf88b556de3cb4258d098d2f98567578c0f34647a428c859596d"), looks := false }, kinds := [], alts := [], laidByText := true, laidKinds := [.data], laidTests := true, laidLooks := .later }
def GasCostsCardSaid : Prop := Claim7.holds Tryd.pinned (.plain (OpenSpec.ofChange gasCostsSpec)) gasCostsCard

/-- THE SECOND FORM's CARD OF 'scruplelaw11.GasCosts'. -/
def gasCostsUptoCard : Claim7 := { stood := { row := gasCostsUptoRow, standIns := [], harness := (true, "1c6301808132bf88b556de3cb4258d098d2f98567578c0f34647a428c859596d"), looks := false }, kinds := [], alts := [], laidByText := true, laidKinds := [.data], laidTests := true, laidLooks := .later }
def GasCostsUptoCardSaid : Prop := Claim7.holds Tryd.pinned (.plain (OpenSpec.upto gasCostsSpec)) gasCostsUptoCard
end Rows
end Go.Proofs.YtmigfhigekfeeaaDoor

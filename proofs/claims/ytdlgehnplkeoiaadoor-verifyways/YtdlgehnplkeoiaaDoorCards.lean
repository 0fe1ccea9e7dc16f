/-
  DERIVED. GIVEN WITH THE SEED: THE CARDS: each row of YtdlgehnplkeoiaaDoorRows.lean that lists a variable, with what it lists TIED to the program's text (the seventh form; the later family's looks); each row that meets fmt, with fmt's text TOLD by the authors' own Lean function (tested against real Go, not proved from fmt's source: count such statements apart). THE CARD IS WHAT COUNTS. Prove the row's statement (the work); the ties are given (YtdlgehnplkeoiaaDoorTie.lean); close each card by the builder's one call (the guide's Derived/Test/ToyasCard.lean, 'card_holds'). Laid BY PROGRAM, IN A SANDBOX (cutbox-door.mjs). By AI agents, Wed Nov 11 2026. No macro, syntax, notation, axiom, sorry.
-/
import Derived.Test.YtdlgehnplkeoiaaDoorRows
import GoSem.ClaimSeven
namespace Go.Proofs.YtdlgehnplkeoiaaDoor
namespace Rows

/-- THE TIED CARD OF 'scruplelaw12.VerifyWays'. -/
def verifyWaysCard : Claim7 := { stood := { row := verifyWaysRow, standIns := [], harness := (true, "651af709afc41ea22877b3ec2bde98b7d6194e3688cd77f1ceb62c033ae20584"), looks := true }, kinds := [], alts := [], laidByText := true, laidKinds := [.data, .data], laidTests := true, laidLooks := .later }
def VerifyWaysCardSaid : Prop := Claim7.holds Tryd.pinned (.plain (OpenSpec.ofChange verifyWaysSpec)) verifyWaysCard

/-- THE SECOND FORM's CARD OF 'scruplelaw12.VerifyWays'. -/
def verifyWaysUptoCard : Claim7 := { stood := { row := verifyWaysUptoRow, standIns := [], harness := (true, "651af709afc41ea22877b3ec2bde98b7d6194e3688cd77f1ceb62c033ae20584"), looks := true }, kinds := [], alts := [], laidByText := true, laidKinds := [.data, .data], laidTests := true, laidLooks := .later }
def VerifyWaysUptoCardSaid : Prop := Claim7.holds Tryd.pinned (.plain (OpenSpec.upto verifyWaysSpec)) verifyWaysUptoCard
end Rows
end Go.Proofs.YtdlgehnplkeoiaaDoor

/-
  DERIVED. GIVEN WITH THE SEED: THE CARDS: each row of YtdjipdpibkcecaaDoorRows.lean that lists a variable, with what it lists TIED to the program's text (the seventh form; the later family's looks); each row that meets fmt, with fmt's text TOLD by the authors' own Lean function (tested against real Go, not proved from fmt's source: count such statements apart). THE CARD IS WHAT COUNTS. Prove the row's statement (the work); the ties are given (YtdjipdpibkcecaaDoorTie.lean); close each card by the builder's one call (the guide's Derived/Test/ToyasCard.lean, 'card_holds'). Laid BY PROGRAM, IN A SANDBOX (cutbox-door.mjs). By AI agents, Wed Nov 11 2026. No macro, syntax, notation, axiom, sorry.
-/
import Derived.Test.YtdjipdpibkcecaaDoorRows
import GoSem.ClaimSeven
namespace Go.Proofs.YtdjipdpibkcecaaDoor
namespace Rows

/-- THE TIED CARD OF 'scruplelaw19.CheckBuiltins'. -/
def checkBuiltinsCard : Claim7 := { stood := { row := checkBuiltinsRow, standIns := [], harness := (true, "8015c5658ec9ee48e8b24780c165cf6e47794a3859fcb315ed6de103e1f89f10"), looks := false }, kinds := [], alts := [], laidByText := true, laidKinds := [.data], laidTests := true, laidLooks := .later }
def CheckBuiltinsCardSaid : Prop := Claim7.holds Tryd.pinned (.plain (OpenSpec.ofChange checkBuiltinsSpec)) checkBuiltinsCard

/-- THE SECOND FORM's CARD OF 'scruplelaw19.CheckBuiltins'. -/
def checkBuiltinsUptoCard : Claim7 := { stood := { row := checkBuiltinsUptoRow, standIns := [], harness := (true, "8015c5658ec9ee48e8b24780c165cf6e47794a3859fcb315ed6de103e1f89f10"), looks := false }, kinds := [], alts := [], laidByText := true, laidKinds := [.data], laidTests := true, laidLooks := .later }
def CheckBuiltinsUptoCardSaid : Prop := Claim7.holds Tryd.pinned (.plain (OpenSpec.upto checkBuiltinsSpec)) checkBuiltinsUptoCard
end Rows
end Go.Proofs.YtdjipdpibkcecaaDoor

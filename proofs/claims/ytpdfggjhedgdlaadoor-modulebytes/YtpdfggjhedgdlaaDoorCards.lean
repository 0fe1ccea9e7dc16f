/-
  DERIVED. GIVEN WITH THE SEED: THE CARDS: each row of YtpdfggjhedgdlaaDoorRows.lean that lists a variable, with what it lists TIED to the program's text (the seventh form; the later family's looks); each row that meets fmt, with fmt's text TOLD by the authors' own Lean function (tested against real Go, not proved from fmt's source: count such statements apart). THE CARD IS WHAT COUNTS. Prove the row's statement (the work); the ties are given (YtpdfggjhedgdlaaDoorTie.lean); close each card by the builder's one call (the guide's Derived/Test/ToyasCard.lean, 'card_holds'). Laid BY PROGRAM, IN A SANDBOX (cutbox-door.mjs). By AI agents, Wed Nov 11 2026. No macro, syntax, notation, axiom, sorry.
-/
import Derived.Test.YtpdfggjhedgdlaaDoorRows
import GoSem.ClaimSeven
namespace Go.Proofs.YtpdfggjhedgdlaaDoor
namespace Rows

/-- THE TIED CARD OF 'scruplelaw09.ModuleBytes'. -/
def moduleBytesCard : Claim7 := { stood := { row := moduleBytesRow, standIns := [], harness := (true, "0215d87ebda4f352f484e4faf292ab53fa19abe50b49c389867b992e0caf8a93"), looks := true }, kinds := [], alts := [], laidByText := true, laidKinds := [.data, .data], laidTests := true, laidLooks := .later }
def ModuleBytesCardSaid : Prop := Claim7.holds Tryd.pinned (.plain (OpenSpec.ofChange moduleBytesSpec)) moduleBytesCard

/-- THE SECOND FORM's CARD OF 'scruplelaw09.ModuleBytes'. -/
def moduleBytesUptoCard : Claim7 := { stood := { row := moduleBytesUptoRow, standIns := [], harness := (true, "0215d87ebda4f352f484e4faf292ab53fa19abe50b49c389867b992e0caf8a93"), looks := true }, kinds := [], alts := [], laidByText := true, laidKinds := [.data, .data], laidTests := true, laidLooks := .later }
def ModuleBytesUptoCardSaid : Prop := Claim7.holds Tryd.pinned (.plain (OpenSpec.upto moduleBytesSpec)) moduleBytesUptoCard
end Rows
end Go.Proofs.YtpdfggjhedgdlaaDoor

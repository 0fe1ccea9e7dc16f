/-
  DERIVED. GIVEN WITH THE SEED: THE CARDS: each row of YtfbpaeddfonfbaaDoorRows.lean that lists a variable, with what it lists TIED to the program's text (the seventh form; the later family's looks); each row that meets fmt, with fmt's text TOLD by the authors' own Lean function (tested against real Go, not proved from fmt's source: count such statements apart). THE CARD IS WHAT COUNTS. Prove the row's statement (the work); the ties are given (YtfbpaeddfonfbaaDoorTie.lean); close each card by the builder's one call (the guide's Derived/Test/ToyasCard.lean, 'card_holds'). Laid BY PROGRAM, IN A SANDBOX (cutbox-door.mjs). By AI agents, Wed Nov 11 2026. No macro, syntax, notation, axiom, sorry.
-/
import Derived.Test.YtfbpaeddfonfbaaDoorRows
import GoSem.ClaimSeven
namespace Go.Proofs.YtfbpaeddfonfbaaDoor
namespace Rows

/-- THE TIED CARD OF 'scruplelaw03.ValueCopies'. -/
def valueCopiesCard : Claim7 := { stood := { row := valueCopiesRow, standIns := [], harness := (true, "a262ea46b7ec6494bd3f4dc0285a6748b788cb739b11d640073c355df635d754"), looks := false }, kinds := [], alts := [], laidByText := true, laidKinds := [.data, .data, .data], laidTests := true, laidLooks := .later }
def ValueCopiesCardSaid : Prop := Claim7.holds Tryd.pinned (.plain (OpenSpec.ofChange valueCopiesSpec)) valueCopiesCard

/-- THE TIED CARD OF 'scruplelaw03.ValueOrders'. -/
def valueOrdersCard : Claim7 := { stood := { row := valueOrdersRow, standIns := [], harness := (true, "a262ea46b7ec6494bd3f4dc0285a6748b788cb739b11d640073c355df635d754"), looks := false }, kinds := [], alts := [], laidByText := true, laidKinds := [.data, .data, .data], laidTests := true, laidLooks := .later }
def ValueOrdersCardSaid : Prop := Claim7.holds Tryd.pinned (.plain (OpenSpec.ofChange valueOrdersSpec)) valueOrdersCard

/-- THE SECOND FORM's CARD OF 'scruplelaw03.ValueCopies'. -/
def valueCopiesUptoCard : Claim7 := { stood := { row := valueCopiesUptoRow, standIns := [], harness := (true, "a262ea46b7ec6494bd3f4dc0285a6748b788cb739b11d640073c355df635d754"), looks := false }, kinds := [], alts := [], laidByText := true, laidKinds := [.data, .data, .data], laidTests := true, laidLooks := .later }
def ValueCopiesUptoCardSaid : Prop := Claim7.holds Tryd.pinned (.plain (OpenSpec.upto valueCopiesSpec)) valueCopiesUptoCard

/-- THE SECOND FORM's CARD OF 'scruplelaw03.ValueOrders'. -/
def valueOrdersUptoCard : Claim7 := { stood := { row := valueOrdersUptoRow, standIns := [], harness := (true, "a262ea46b7ec6494bd3f4dc0285a6748b788cb739b11d640073c355df635d754"), looks := false }, kinds := [], alts := [], laidByText := true, laidKinds := [.data, .data, .data], laidTests := true, laidLooks := .later }
def ValueOrdersUptoCardSaid : Prop := Claim7.holds Tryd.pinned (.plain (OpenSpec.upto valueOrdersSpec)) valueOrdersUptoCard
end Rows
end Go.Proofs.YtfbpaeddfonfbaaDoor

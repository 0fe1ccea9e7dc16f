/-
  DERIVED. GIVEN WITH THE SEED: THE CARDS: each row of YtjdpaihhhjdgmaaGreatDoorRows.lean that lists a variable, with what it lists TIED to the program's text (the seventh form; the later family's looks); each row that meets fmt, with fmt's text TOLD by the authors' own Lean function (tested against real Go, not proved from fmt's source: count such statements apart). THE CARD IS WHAT COUNTS. Prove the row's statement (the work); the ties are given (YtjdpaihhhjdgmaaGreatDoorTie.lean); close each card by the builder's one call (the guide's Derived/Test/ToyasCard.lean, 'card_holds'). Laid BY PROGRAM, IN A SANDBOX (cutbox-door.mjs). By AI agents, Wed Nov 11 2026. No macro, syntax, notation, axiom, sorry.
-/
import Derived.Test.YtjdpaihhhjdgmaaGreatDoorRows
import GoSem.ClaimSeven
namespace Go.Proofs.YtjdpaihhhjdgmaaGreatDoor
namespace Rows

/-- THE TIED CARD OF 'scruplelaw19.CheckTrees'. -/
def checkTreesCard : Claim7 := { stood := { row := checkTreesRow, standIns := [], harness := (true, "a310c21801eddec9a78f8b287061cd8ae6bf06f479808dc1b76f7df974b4b52e"), looks := true }, kinds := [], alts := [], laidByText := true, laidKinds := [.data, .data, .data, .sentinel, .sentinel, .data], laidTests := true, laidLooks := .later }
def CheckTreesCardSaid : Prop := Claim7.holds Tryz.pinned (.plain (OpenSpec.ofChange checkTreesSpec)) checkTreesCard

/-- THE TIED CARD OF 'scruplelaw19.CheckPlaces'. -/
def checkPlacesCard : Claim7 := { stood := { row := checkPlacesRow, standIns := [], harness := (true, "a310c21801eddec9a78f8b287061cd8ae6bf06f479808dc1b76f7df974b4b52e"), looks := true }, kinds := [], alts := [], laidByText := true, laidKinds := [.data, .data, .data, .sentinel, .sentinel, .data], laidTests := true, laidLooks := .later }
def CheckPlacesCardSaid : Prop := Claim7.holds Tryz.pinned (.plain (OpenSpec.ofChange checkPlacesSpec)) checkPlacesCard

/-- THE TIED CARD OF 'scruplelaw19.CheckSet'. -/
def checkSetCard : Claim7 := { stood := { row := checkSetRow, standIns := [], harness := (true, "a310c21801eddec9a78f8b287061cd8ae6bf06f479808dc1b76f7df974b4b52e"), looks := true }, kinds := [], alts := [], laidByText := true, laidKinds := [.data, .data, .data, .sentinel, .sentinel, .data], laidTests := true, laidLooks := .later }
def CheckSetCardSaid : Prop := Claim7.holds Tryz.pinned (.plain (OpenSpec.ofChange checkSetSpec)) checkSetCard

/-- THE SECOND FORM's CARD OF 'scruplelaw19.CheckTrees'. -/
def checkTreesUptoCard : Claim7 := { stood := { row := checkTreesUptoRow, standIns := [], harness := (true, "a310c21801eddec9a78f8b287061cd8ae6bf06f479808dc1b76f7df974b4b52e"), looks := true }, kinds := [], alts := [], laidByText := true, laidKinds := [.data, .data, .data, .sentinel, .sentinel, .data], laidTests := true, laidLooks := .later }
def CheckTreesUptoCardSaid : Prop := Claim7.holds Tryz.pinned (.plain (OpenSpec.upto checkTreesSpec)) checkTreesUptoCard

/-- THE SECOND FORM's CARD OF 'scruplelaw19.CheckPlaces'. -/
def checkPlacesUptoCard : Claim7 := { stood := { row := checkPlacesUptoRow, standIns := [], harness := (true, "a310c21801eddec9a78f8b287061cd8ae6bf06f479808dc1b76f7df974b4b52e"), looks := true }, kinds := [], alts := [], laidByText := true, laidKinds := [.data, .data, .data, .sentinel, .sentinel, .data], laidTests := true, laidLooks := .later }
def CheckPlacesUptoCardSaid : Prop := Claim7.holds Tryz.pinned (.plain (OpenSpec.upto checkPlacesSpec)) checkPlacesUptoCard

/-- THE SECOND FORM's CARD OF 'scruplelaw19.CheckSet'. -/
def checkSetUptoCard : Claim7 := { stood := { row := checkSetUptoRow, standIns := [], harness := (true, "a310c21801eddec9a78f8b287061cd8ae6bf06f479808dc1b76f7df974b4b52e"), looks := true }, kinds := [], alts := [], laidByText := true, laidKinds := [.data, .data, .data, .sentinel, .sentinel, .data], laidTests := true, laidLooks := .later }
def CheckSetUptoCardSaid : Prop := Claim7.holds Tryz.pinned (.plain (OpenSpec.upto checkSetSpec)) checkSetUptoCard
end Rows
end Go.Proofs.YtjdpaihhhjdgmaaGreatDoor

/-
  DERIVED. GIVEN WITH THE SEED: THE CARDS: each row of YtcknoeepdjhnoaaGreatDoorRows.lean that lists a variable, with what it lists TIED to the program's text (the seventh form; the later family's looks); each row that meets fmt, with fmt's text TOLD by the authors' own Lean function (tested against real Go, not proved from fmt's source: count such statements apart). THE CARD IS WHAT COUNTS. Prove the row's statement (the work); the ties are given (YtcknoeepdjhnoaaGreatDoorTie.lean); close each card by the builder's one call (the guide's Derived/Test/ToyasCard.lean, 'card_holds'). Laid BY PROGRAM, IN A SANDBOX (cutbox-door.mjs). By AI agents, Wed Nov 11 2026. No macro, syntax, notation, axiom, sorry.
-/
import Derived.Test.YtcknoeepdjhnoaaGreatDoorRows
import GoSem.ClaimSeven
namespace Go.Proofs.YtcknoeepdjhnoaaGreatDoor
namespace Rows

/-- THE TIED CARD OF 'scruplelaw12.VerifyModules'. -/
def verifyModulesCard : Claim7 := { stood := { row := verifyModulesRow, standIns := [], harness := (true, "4abcef0783b01937519aca4e6fbb8c8321019b234c6d338b1600e24d859180f1"), looks := true }, kinds := [], alts := [], laidByText := true, laidKinds := [.data, .data], laidTests := true, laidLooks := .later }
def VerifyModulesCardSaid : Prop := Claim7.holds Tryz.pinned (.plain (OpenSpec.ofChange verifyModulesSpec)) verifyModulesCard

/-- THE TIED CARD OF 'scruplelaw12.VerifyHeights'. -/
def verifyHeightsCard : Claim7 := { stood := { row := verifyHeightsRow, standIns := [], harness := (true, "4abcef0783b01937519aca4e6fbb8c8321019b234c6d338b1600e24d859180f1"), looks := true }, kinds := [], alts := [], laidByText := true, laidKinds := [.data, .data], laidTests := true, laidLooks := .later }
def VerifyHeightsCardSaid : Prop := Claim7.holds Tryz.pinned (.plain (OpenSpec.ofChange verifyHeightsSpec)) verifyHeightsCard

/-- THE SECOND FORM's CARD OF 'scruplelaw12.VerifyModules'. -/
def verifyModulesUptoCard : Claim7 := { stood := { row := verifyModulesUptoRow, standIns := [], harness := (true, "4abcef0783b01937519aca4e6fbb8c8321019b234c6d338b1600e24d859180f1"), looks := true }, kinds := [], alts := [], laidByText := true, laidKinds := [.data, .data], laidTests := true, laidLooks := .later }
def VerifyModulesUptoCardSaid : Prop := Claim7.holds Tryz.pinned (.plain (OpenSpec.upto verifyModulesSpec)) verifyModulesUptoCard

/-- THE SECOND FORM's CARD OF 'scruplelaw12.VerifyHeights'. -/
def verifyHeightsUptoCard : Claim7 := { stood := { row := verifyHeightsUptoRow, standIns := [], harness := (true, "4abcef0783b01937519aca4e6fbb8c8321019b234c6d338b1600e24d859180f1"), looks := true }, kinds := [], alts := [], laidByText := true, laidKinds := [.data, .data], laidTests := true, laidLooks := .later }
def VerifyHeightsUptoCardSaid : Prop := Claim7.holds Tryz.pinned (.plain (OpenSpec.upto verifyHeightsSpec)) verifyHeightsUptoCard
end Rows
end Go.Proofs.YtcknoeepdjhnoaaGreatDoor

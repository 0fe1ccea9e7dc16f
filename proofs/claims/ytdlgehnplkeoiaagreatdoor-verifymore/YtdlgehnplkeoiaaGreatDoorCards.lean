/-
  DERIVED. GIVEN WITH THE SEED: THE CARDS: each row of YtdlgehnplkeoiaaGreatDoorRows.lean that lists a variable, with what it lists TIED to the program's text (the seventh form; the later family's looks); each row that meets fmt, with fmt's text TOLD by the authors' own Lean function (tested against real Go, not proved from fmt's source: count such statements apart). THE CARD IS WHAT COUNTS. Prove the row's statement (the work); the ties are given (YtdlgehnplkeoiaaGreatDoorTie.lean); close each card by the builder's one call (the guide's Derived/Test/ToyasCard.lean, 'card_holds'). Laid BY PROGRAM, IN A SANDBOX (cutbox-door.mjs). By AI agents, Wed Nov 11 2026. No macro, syntax, notation, axiom, sorry.
-/
import Derived.Test.YtdlgehnplkeoiaaGreatDoorRows
import GoSem.ClaimSeven
namespace Go.Proofs.YtdlgehnplkeoiaaGreatDoor
namespace Rows

/-- THE TIED CARD OF 'scruplelaw12.VerifyModules'. -/
def verifyModulesCard : Claim7 := { stood := { row := verifyModulesRow, standIns := [], harness := (true, "fe8d4bef00e2023528aaaf34dba242bf0f82090b85922df0169ed94f5ee8d526"), looks := true }, kinds := [], alts := [], laidByText := true, laidKinds := [.data, .data], laidTests := true, laidLooks := .later }
def VerifyModulesCardSaid : Prop := Claim7.holds Tryz.pinned (.plain (OpenSpec.ofChange verifyModulesSpec)) verifyModulesCard

/-- THE TIED CARD OF 'scruplelaw12.VerifyHeights'. -/
def verifyHeightsCard : Claim7 := { stood := { row := verifyHeightsRow, standIns := [], harness := (true, "fe8d4bef00e2023528aaaf34dba242bf0f82090b85922df0169ed94f5ee8d526"), looks := true }, kinds := [], alts := [], laidByText := true, laidKinds := [.data, .data], laidTests := true, laidLooks := .later }
def VerifyHeightsCardSaid : Prop := Claim7.holds Tryz.pinned (.plain (OpenSpec.ofChange verifyHeightsSpec)) verifyHeightsCard

/-- THE TIED CARD OF 'scruplelaw12.VerifyFirst'. -/
def verifyFirstCard : Claim7 := { stood := { row := verifyFirstRow, standIns := [], harness := (true, "fe8d4bef00e2023528aaaf34dba242bf0f82090b85922df0169ed94f5ee8d526"), looks := true }, kinds := [], alts := [], laidByText := true, laidKinds := [.data, .data], laidTests := true, laidLooks := .later }
def VerifyFirstCardSaid : Prop := Claim7.holds Tryz.pinned (.plain (OpenSpec.ofChange verifyFirstSpec)) verifyFirstCard

/-- THE TIED CARD OF 'scruplelaw12.VerifyMore'. -/
def verifyMoreCard : Claim7 := { stood := { row := verifyMoreRow, standIns := [], harness := (true, "fe8d4bef00e2023528aaaf34dba242bf0f82090b85922df0169ed94f5ee8d526"), looks := true }, kinds := [], alts := [], laidByText := true, laidKinds := [.data, .data], laidTests := true, laidLooks := .later }
def VerifyMoreCardSaid : Prop := Claim7.holds Tryz.pinned (.plain (OpenSpec.ofChange verifyMoreSpec)) verifyMoreCard

/-- THE SECOND FORM's CARD OF 'scruplelaw12.VerifyModules'. -/
def verifyModulesUptoCard : Claim7 := { stood := { row := verifyModulesUptoRow, standIns := [], harness := (true, "fe8d4bef00e2023528aaaf34dba242bf0f82090b85922df0169ed94f5ee8d526"), looks := true }, kinds := [], alts := [], laidByText := true, laidKinds := [.data, .data], laidTests := true, laidLooks := .later }
def VerifyModulesUptoCardSaid : Prop := Claim7.holds Tryz.pinned (.plain (OpenSpec.upto verifyModulesSpec)) verifyModulesUptoCard

/-- THE SECOND FORM's CARD OF 'scruplelaw12.VerifyHeights'. -/
def verifyHeightsUptoCard : Claim7 := { stood := { row := verifyHeightsUptoRow, standIns := [], harness := (true, "fe8d4bef00e2023528aaaf34dba242bf0f82090b85922df0169ed94f5ee8d526"), looks := true }, kinds := [], alts := [], laidByText := true, laidKinds := [.data, .data], laidTests := true, laidLooks := .later }
def VerifyHeightsUptoCardSaid : Prop := Claim7.holds Tryz.pinned (.plain (OpenSpec.upto verifyHeightsSpec)) verifyHeightsUptoCard

/-- THE SECOND FORM's CARD OF 'scruplelaw12.VerifyFirst'. -/
def verifyFirstUptoCard : Claim7 := { stood := { row := verifyFirstUptoRow, standIns := [], harness := (true, "fe8d4bef00e2023528aaaf34dba242bf0f82090b85922df0169ed94f5ee8d526"), looks := true }, kinds := [], alts := [], laidByText := true, laidKinds := [.data, .data], laidTests := true, laidLooks := .later }
def VerifyFirstUptoCardSaid : Prop := Claim7.holds Tryz.pinned (.plain (OpenSpec.upto verifyFirstSpec)) verifyFirstUptoCard

/-- THE SECOND FORM's CARD OF 'scruplelaw12.VerifyMore'. -/
def verifyMoreUptoCard : Claim7 := { stood := { row := verifyMoreUptoRow, standIns := [], harness := (true, "fe8d4bef00e2023528aaaf34dba242bf0f82090b85922df0169ed94f5ee8d526"), looks := true }, kinds := [], alts := [], laidByText := true, laidKinds := [.data, .data], laidTests := true, laidLooks := .later }
def VerifyMoreUptoCardSaid : Prop := Claim7.holds Tryz.pinned (.plain (OpenSpec.upto verifyMoreSpec)) verifyMoreUptoCard
end Rows
end Go.Proofs.YtdlgehnplkeoiaaGreatDoor

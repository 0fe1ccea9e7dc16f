/-
  DERIVED. GIVEN WITH THE SEED: THE PROGRAM's TIES (one call each: nine closed facts by the kernel) AND EACH ROW's TIE, after the 31st guide's Derived/Test/Toyas{Tie, Card}.lean. No idea stands in it: it is a product of the set-up. Laid BY PROGRAM, IN A SANDBOX (cutbox-door.mjs). By AI agents, Wed Nov 11 2026. No macro, syntax, notation, axiom, sorry.
-/
import Derived.Test.YtmnbfcpkaglniaaGreatDoorRows
import Derived.LaidByTextLater
import Derived.SevenTiedAt
import Derived.LaidSub
import Derived.LaidOnce
namespace Go.Proofs.YtmnbfcpkaglniaaGreatDoor
open Go
set_option maxRecDepth 100000
theorem seatTie1 : Tryz.prog.laidByTextLater [("scruple/code.operations", Rows.laid_scruple_code_operations), ("scruple/code.operands", Rows.laid_scruple_code_operands), ("scruple/hash.start", Rows.laid_scruple_hash_start), ("scruple/hash.roundWords", Rows.laid_scruple_hash_roundWords)] [.data, .data, .data, .data] true :=
  Program.laidByTextLater_by_one 76 8 253 (by kernel_rfl) (by kernel_rfl) (by kernel_rfl) (by kernel_rfl) (by kernel_rfl) (by kernel_rfl) (fun _ _ => by kernel_rfl)
theorem noOwnUnsafe : Tryz.pinned.checked.prog.headLifts.contains "ownunsafe" = false := by kernel_rfl
theorem tie : Tryz.prog.laidByTextLater [("scruple/code.operations", Rows.laid_scruple_code_operations), ("scruple/code.operands", Rows.laid_scruple_code_operands), ("scruple/hash.start", Rows.laid_scruple_hash_start), ("scruple/hash.roundWords", Rows.laid_scruple_hash_roundWords)] [.data, .data, .data, .data] true :=
  Program.laidByTextLater.sub seatTie1 ["scruple/code.operations", "scruple/code.operands", "scruple/hash.start", "scruple/hash.roundWords"] (by kernel_rfl) (by kernel_rfl)
theorem stepNone_row_tie : Rows.stepNoneRow.laidByTextAt .later Tryz.pinned [.data, .data, .data, .data] true :=
  OpenClaim.laidByTextAt_later rfl rfl tie noOwnUnsafe
theorem stepNoneUpto_row_tie : Rows.stepNoneUptoRow.laidByTextAt .later Tryz.pinned [.data, .data, .data, .data] true :=
  OpenClaim.laidByTextAt_later rfl rfl tie noOwnUnsafe
end Go.Proofs.YtmnbfcpkaglniaaGreatDoor

/-
  What the listed variables of the seat give the walks of operations; no conditions.
-/
import Derived.Test.YtghegjmmgcnabaaGreatDoorCLaid
namespace Go.Proofs.YtghegjmmgcnabaaGreatDoor
open Go.ChangeShapes Go.WideShapes Go.ChangeAt Go.RowKit

def seatLaid3 : List (String × DataW Unit) := [("scruple/code.operations", Rows.laid_scruple_code_operations), ("scruple/hash.start", Rows.laid_scruple_hash_start), ("scruple/hash.roundWords", Rows.laid_scruple_hash_roundWords)]

theorem of_laid3 {W : World} (h : laidMetH Tryz.prog seatLaid3 W) : Tab W := by
  rw [MakeChecks.laidMetH_plain _ _ _ (by kernel_rfl)] at h
  obtain ⟨ps, ⟨g0, t0, cs0, f0, p0, q0, hg0, ht0, hv0, hd0, _, hps⟩, _, hfz⟩ := h
  obtain rfl := Option.some.inj (gOps.symm.trans hg0)
  obtain rfl := Option.some.inj (tOps.symm.trans ht0)
  have z0 : 0 < cs0.size := by
    have := (DataW.trod_array Tryz.underlying96 hd0)
    obtain ⟨_, _, _, _, hl, _, _⟩ := this
    rw [show Tryz.prog.cellsOf 96 = 252 by kernel_rfl] at hl
    simp at hl
    omega
  obtain ⟨⟨c, t, hc⟩, _⟩ := hfz 0 0 (by rw [hps]; exact List.mem_append_left _ (List.mem_append_left _ (MemPlace.mem_row.2 ⟨0, z0, rfl⟩)))
  have hv : some cs0 = some c := by rw [← hv0]; unfold World.var?; rw [gOps]; simp [hc]
  cases hv
  exact tab_of hc hd0

/-- the door's own heap meets the condition -/
theorem door_met3 (os : Os) (args : Array Value) : laidMetH Tryz.prog seatLaid3 ((World.doorLaid Tryz.prog 400 os).forCall (fun _ _ => 0) ⟨#[], args, []⟩).memory :=
  laidMetH_of_parts3 (fuel := 8) (laidMet_of_run' 8 (by kernel_rfl) (by kernel_rfl)) (by kernel_rfl) (by kernel_rfl)
end Go.Proofs.YtghegjmmgcnabaaGreatDoor

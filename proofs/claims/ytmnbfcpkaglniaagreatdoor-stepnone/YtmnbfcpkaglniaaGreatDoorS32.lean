/-
  The walk of Right of a module (layer 9); no conditions but the form's own reach.
  Layer 12 (verify): what Module and Heights answer, as functions of a module; plain, no conditions.
-/
import Derived.Test.YtmnbfcpkaglniaaGreatDoorS31
import Derived.Test.YtmnbfcpkaglniaaGreatDoorS22
set_option linter.unusedVariables false
set_option linter.unusedSimpArgs false
namespace Go.Proofs.YtmnbfcpkaglniaaGreatDoor
open Go.RowKit
set_option maxRecDepth 100000 in
set_option maxHeartbeats 400000 in
theorem rightM_any (m : Md) (a1 a2 a3 : Option Addr) (n1 c1 n2 c2 n3 c3 B : Nat) (w : World) (hn1 : m.cs.length = n1) (hn2 : m.fs.length = n2) (hn3 : m.xs.length = n3) (h : IsM w (fun b => b < B) m a1 c1 a2 c2 a3 c3) (hB : B ≤ w.heap.size) :
    Calls Tryz.prog 48 #[.agg #[.slice a1 n1 c1, .slice a2 n2 c2, .slice a3 n3 c3]] w fun e w' => e = .returned (.bool (rightM m)) ∧ Below w.heap.size w w' := by
  obtain ⟨g, hg⟩ : ∃ g, w.heap.size = g := ⟨_, rfl⟩
  have BX := BoxN.mk' w #[.slice a1 n1 c1, .slice a2 n2 c2, .slice a3 n3 c3] 47
  obtain ⟨w1, hw1⟩ : ∃ w1, w.alloc (.cells #[.slice a1 n1 c1, .slice a2 n2 c2, .slice a3 n3 c3] 47) = w1 := ⟨_, rfl⟩
  rw [hw1] at BX
  obtain ⟨m0, m1, m2⟩ := row_cell3 (by have := BX.row; rw [hg] at this; exact this)
  have CL := hide (layM_any m a1 a2 a3 n1 c1 n2 c2 n3 c3 B w1 hn1 hn2 hn3 (h.later (BX.below.mono hB)) (by have := BX.size; omega))
  have HB := hide BX
  have HG := hide hg
  generalize rightM m = R at *
  clear BX h hB hn1 hn2 hn3
  go_enter Tryz.func48, Tryz.ntmps48
  go_wp2_with fail
  refine (unhide CL).mono ?_
  rintro e u ⟨ao, len, cap, rfl, r1, b1, f1, k1, o1⟩
  have H5 : Hid (Below w.heap.size w u) := hide ((unhide HB).below.trans (b1.mono (by have := (unhide HB).size; omega)))
  clear r1 b1 f1 k1 o1 CL
  go_wp2_with fail
  go_ret
  exact ⟨rfl, by first | exact unhide H5 | (rw [← unhide HG]; exact unhide H5)⟩
def modF (m : Md) : Flt := if rightM m = true then modN m m.fs.length 0 else (120, 0, 0)
def hgtF (m : Md) (f : Int) : List Int × Flt :=
  if rightM m = true ∧ 0 ≤ f ∧ f < (m.fs.length : Int) then (htsF m f.toNat, fltF m f.toNat) else ([], (120, 0, 0))
end Go.Proofs.YtmnbfcpkaglniaaGreatDoor

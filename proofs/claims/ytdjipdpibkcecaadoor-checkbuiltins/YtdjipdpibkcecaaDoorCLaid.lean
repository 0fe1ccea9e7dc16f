/-
  What the listed table of operations of the seat gives the walks; no conditions.
-/
import Derived.Test.YtdjipdpibkcecaaDoorCTab
import Derived.ProofKit
import Derived.LaidMore
import Derived.Stop.Joined
namespace Go.Proofs.YtdjipdpibkcecaaDoor
open Go.ChangeShapes Go.WideShapes Go.ChangeAt Go.RowKit

theorem own : ownKnob Tryd.prog.godebug = none := by kernel_rfl
theorem laidOut : laidOutB Tryd.prog = true := by kernel_rfl
theorem gOps : Tryd.prog.globalNamed "scruple/code.operations" = some 0 := by kernel_rfl
theorem tOps : (Tryd.prog.globals[0]?).map (·.type) = some 31 := by kernel_rfl
theorem cells_int : Tryd.prog.cellsOf 3 = 1 := by kernel_rfl
theorem cells_str : Tryd.prog.cellsOf 9 = 1 := by kernel_rfl
theorem cells_inf : Tryd.prog.cellsOf 28 = 6 := by kernel_rfl

theorem inf_of {W : World} {fuel : Nat} {cs : List Value} {d : DataW Unit} {p : List MemPlace} (h : DataW.trod (fun _ => ()) Tryd.prog W 0 (fun _ => true) false fuel 28 cs = some (d, p)) :
    cs = infV (infOf d) := by
  obtain ⟨xs, m, _, hx1, hlen, hn, hf⟩ := DataW.trod_struct Tryd.underlying28 h
  simp only [Prod.mk.injEq] at hx1
  obtain ⟨rfl, _⟩ := hx1
  rw [cells_inf] at hlen
  match cs, hlen, xs, hn with
  | [v0, v1, v2, v3, v4, v5], _, [x0, x1, x2, x3, x4, x5], _ =>
    have f0 := hf 0 _ rfl
    have f1 := hf 1 _ rfl
    have f2 := hf 2 _ rfl
    have f3 := hf 3 _ rfl
    have f4 := hf 4 _ rfl
    have f5 := hf 5 _ rfl
    obtain ⟨s, a0, b0, _⟩ := DataW.trod_string Tryd.underlying9 f0
    obtain ⟨n1, a1, b1, _⟩ := DataW.trod_int Tryd.underlying3 f1
    obtain ⟨n2, a2, b2, _⟩ := DataW.trod_int Tryd.underlying3 f2
    obtain ⟨n3, a3, b3, _⟩ := DataW.trod_int Tryd.underlying3 f3
    obtain ⟨n4, a4, b4, _⟩ := DataW.trod_int Tryd.underlying3 f4
    obtain ⟨n5, a5, b5, _⟩ := DataW.trod_int Tryd.underlying3 f5
    simp [cells_int, cells_str] at a0 a1 a2 a3 a4 a5
    subst b0 b1 b2 b3 b4 b5 a0 a1 a2 a3 a4 a5
    simp [infOf, infV]

theorem tab_of {W : World} {fuel : Nat} {cs : Array Value} {t : TypeId} {p : List MemPlace} (hb : W.heap[0]? = some (.cells cs t (0, 0))) (h : DataW.trod (fun _ => ()) Tryd.prog W 0 (fun _ => true) false fuel 31 cs.toList = some (Rows.laid_scruple_code_operations, p)) : Tab W := by
  obtain ⟨xs, m, _, hx1, hlen, hn, hel⟩ := DataW.trod_array Tryd.underlying31 h
  simp only [Prod.mk.injEq] at hx1
  have e : OPS = xs.map fun x => infOf x.1 := by
    unfold OPS
    rw [hx1.1]
    simp
  refine ⟨(Array.getElem?_eq_some_iff.1 hb).1, fun k x hx j v hv => ?_⟩
  have hk : k < 42 := by have := (List.getElem?_eq_some_iff.1 hx).1; rw [OPS_len] at this; exact this
  have hk' : k < xs.length := by omega
  have h1 := hel k hk
  rw [List.getElem?_eq_getElem hk'] at h1
  have h2 := inf_of h1
  have e2 : infOf xs[k].1 = x := by
    rw [e] at hx
    simpa [hk'] using hx
  have h3 := h2.trans (show infV (infOf (xs.get ⟨k, hk'⟩).1) = infV x by rw [← e2]; rfl)
  rw [cells_inf] at h3
  rw [cell_of_row W 0 _ cs t (0, 0) hb]
  have hj : j < 6 := (List.getElem?_eq_some_iff.1 hv).1
  rw [← h3, List.getElem?_take_of_lt hj, List.getElem?_drop] at hv
  simpa using hv

def seatLaid1 : List (String × DataW Unit) := [("scruple/code.operations", Rows.laid_scruple_code_operations)]

theorem of_laid1 {W : World} (h : laidMetH Tryd.prog seatLaid1 W) : Tab W := by
  rw [MakeChecks.laidMetH_plain _ _ _ (by kernel_rfl)] at h
  obtain ⟨ps, ⟨g0, t0, cs0, f0, p0, q0, hg0, ht0, hv0, hd0, _, hps⟩, _, hfz⟩ := h
  obtain rfl := Option.some.inj (gOps.symm.trans hg0)
  obtain rfl := Option.some.inj (tOps.symm.trans ht0)
  have z0 : 0 < cs0.size := by
    have := (DataW.trod_array Tryd.underlying31 hd0)
    obtain ⟨_, _, _, _, hl, _, _⟩ := this
    rw [show Tryd.prog.cellsOf 31 = 252 by kernel_rfl] at hl
    simp at hl
    omega
  obtain ⟨⟨c, t, hc⟩, _⟩ := hfz 0 0 (by rw [hps]; exact List.mem_append_left _ (List.mem_append_left _ (MemPlace.mem_row.2 ⟨0, z0, rfl⟩)))
  have hv : some cs0 = some c := by rw [← hv0]; unfold World.var?; rw [gOps]; simp [hc]
  cases hv
  exact tab_of hc hd0

/-- the door's own heap meets the condition -/
theorem door_met1 (os : Os) (args : Array Value) : laidMetH Tryd.prog seatLaid1 ((World.doorLaid Tryd.prog 400 os).forCall (fun _ _ => 0) ⟨#[], args, []⟩).memory :=
  laidMetH_of_parts3 (fuel := 8) (laidMet_of_run' 8 (by kernel_rfl) (by kernel_rfl)) (by kernel_rfl) (by kernel_rfl)
end Go.Proofs.YtdjipdpibkcecaaDoor

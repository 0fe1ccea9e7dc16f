/-
  What the listed variables operations and operands of the seat give the walks; no conditions.
-/
import Derived.Test.YtbilcninhhkkpaaDoorCLaid
import Derived.Test.YtbilcninhhkkpaaDoorCIns
namespace Go.Proofs.YtbilcninhhkkpaaDoor
open Go.ChangeShapes Go.WideShapes Go.ChangeAt Go.RowKit

theorem gOpd : Tryd.prog.globalNamed "scruple/code.operands" = some 1 := by kernel_rfl
theorem tOpd : (Tryd.prog.globals[1]?).map (·.type) = some 62 := by kernel_rfl
theorem cells_opd : Tryd.prog.cellsOf 61 = 2 := by kernel_rfl

theorem opd_of {W : World} {fuel : Nat} {cs : List Value} {d : DataW Unit} {p : List MemPlace} (h : DataW.trod (fun _ => ()) Tryd.prog W 0 (fun _ => true) false fuel 61 cs = some (d, p)) :
    cs = [.int .i64 (opdOf d).1, .int .i64 (opdOf d).2] := by
  obtain ⟨xs, m, _, hx1, hlen, hn, hf⟩ := DataW.trod_struct Tryd.underlying61 h
  simp only [Prod.mk.injEq] at hx1
  obtain ⟨rfl, _⟩ := hx1
  rw [cells_opd] at hlen
  match cs, hlen, xs, hn with
  | [v0, v1], _, [x0, x1], _ =>
    have f0 := hf 0 _ rfl
    have f1 := hf 1 _ rfl
    obtain ⟨n0, a0, b0, _⟩ := DataW.trod_int Tryd.underlying3 f0
    obtain ⟨n1, a1, b1, _⟩ := DataW.trod_int Tryd.underlying3 f1
    simp [cells_int] at a0 a1
    subst b0 b1 a0 a1
    simp [opdOf]

theorem tab2_of {W : World} {fuel : Nat} {cs : Array Value} {t : TypeId} {p : List MemPlace} (ht : Tab W) (hb : W.heap[1]? = some (.cells cs t (0, 0))) (h : DataW.trod (fun _ => ()) Tryd.prog W 0 (fun _ => true) false fuel 62 cs.toList = some (Rows.laid_scruple_code_operands, p)) : Tab2 W := by
  obtain ⟨xs, m, _, hx1, hlen, hn, hel⟩ := DataW.trod_array Tryd.underlying62 h
  simp only [Prod.mk.injEq] at hx1
  have e : OPD = xs.map fun x => opdOf x.1 := by
    unfold OPD
    rw [hx1.1]
    simp
  refine ⟨ht, by have h1 := (Array.getElem?_eq_some_iff.1 hb).1; have h2 := ht.big; omega, fun k x hx => ?_⟩
  have hk : k < 6 := by have := (List.getElem?_eq_some_iff.1 hx).1; rw [OPD_len] at this; exact this
  have hk' : k < xs.length := by omega
  have h1 := hel k hk
  rw [List.getElem?_eq_getElem hk'] at h1
  have h2 := opd_of h1
  have e2 : opdOf xs[k].1 = x := by
    rw [e] at hx
    simpa [hk'] using hx
  have h3 := h2.trans (show _ = [Value.int .i64 x.1, .int .i64 x.2] by rw [← e2]; rfl)
  rw [cells_opd] at h3
  rw [cell_of_row W 1 _ cs t (0, 0) hb, cell_of_row W 1 _ cs t (0, 0) hb]
  have q0 := congrArg (·[0]?) h3
  have q1 := congrArg (·[1]?) h3
  simp only [List.getElem?_take_of_lt (show 0 < 2 by omega), List.getElem?_take_of_lt (show 1 < 2 by omega), List.getElem?_drop] at q0 q1
  exact ⟨by simpa using q0, by simpa using q1⟩

def seatLaid2 : List (String × DataW Unit) := [("scruple/code.operations", Rows.laid_scruple_code_operations), ("scruple/code.operands", Rows.laid_scruple_code_operands)]

theorem of_laid2 {W : World} (h : laidMetH Tryd.prog seatLaid2 W) : Tab2 W := by
  rw [MakeChecks.laidMetH_plain _ _ _ (by kernel_rfl)] at h
  obtain ⟨ps, ⟨g0, t0, cs0, f0, p0, q0, hg0, ht0, hv0, hd0, ⟨g1, t1, cs1, f1, p1, q1, hg1, ht1, hv1, hd1, _, hq⟩, hps⟩, _, hfz⟩ := h
  obtain rfl := Option.some.inj (gOps.symm.trans hg0)
  obtain rfl := Option.some.inj (gOpd.symm.trans hg1)
  obtain rfl := Option.some.inj (tOps.symm.trans ht0)
  obtain rfl := Option.some.inj (tOpd.symm.trans ht1)
  have z0 : 0 < cs0.size := by
    obtain ⟨_, _, _, _, hl, _, _⟩ := DataW.trod_array Tryd.underlying54 hd0
    rw [show Tryd.prog.cellsOf 54 = 252 by kernel_rfl] at hl
    simp at hl
    omega
  have z1 : 0 < cs1.size := by
    obtain ⟨_, _, _, _, hl, _, _⟩ := DataW.trod_array Tryd.underlying62 hd1
    rw [show Tryd.prog.cellsOf 62 = 12 by kernel_rfl] at hl
    simp at hl
    omega
  obtain ⟨⟨c, t, hc⟩, _⟩ := hfz 0 0 (by rw [hps]; exact List.mem_append_left _ (List.mem_append_left _ (MemPlace.mem_row.2 ⟨0, z0, rfl⟩)))
  obtain ⟨⟨c', t', hc'⟩, _⟩ := hfz 1 0 (by rw [hps, hq]; exact List.mem_append_right _ (List.mem_append_left _ (List.mem_append_left _ (MemPlace.mem_row.2 ⟨0, z1, rfl⟩))))
  have hv : some cs0 = some c := by rw [← hv0]; unfold World.var?; rw [gOps]; simp [hc]
  have hv' : some cs1 = some c' := by rw [← hv1]; unfold World.var?; rw [gOpd]; simp [hc']
  cases hv
  cases hv'
  exact tab2_of (tab_of hc hd0) hc' hd1

/-- the door's own heap meets the condition -/
theorem door_met2 (os : Os) (args : Array Value) : laidMetH Tryd.prog seatLaid2 ((World.doorLaid Tryd.prog 400 os).forCall (fun _ _ => 0) ⟨#[], args, []⟩).memory :=
  laidMetH_of_parts3 (fuel := 8) (laidMet_of_run' 8 (by kernel_rfl) (by kernel_rfl)) (by kernel_rfl) (by kernel_rfl)
end Go.Proofs.YtbilcninhhkkpaaDoor

/-
  What the listed table of operations of the seat gives the walks; no conditions.
  What the listed variables operations and operands of the seat give the walks; no conditions.
-/
import Derived.Test.YtdlgehnplkeoiaaGreatDoorB00
import Derived.ProofKit
import Derived.LaidMore
import Derived.Stop.Joined
import Derived.Test.YtdlgehnplkeoiaaGreatDoorB01
set_option linter.unusedVariables false
set_option linter.unusedSimpArgs false
namespace Go.Proofs.YtdlgehnplkeoiaaGreatDoor
open Go.ChangeShapes Go.WideShapes Go.ChangeAt Go.RowKit

theorem own : ownKnob Tryz.prog.godebug = none := by kernel_rfl
theorem laidOut : laidOutB Tryz.prog = true := by kernel_rfl
theorem gOps : Tryz.prog.globalNamed "scruple/code.operations" = some 1 := by kernel_rfl
theorem tOps : (Tryz.prog.globals[1]?).map (·.type) = some 135 := by kernel_rfl
theorem cells_int : Tryz.prog.cellsOf 3 = 1 := by kernel_rfl
theorem cells_str : Tryz.prog.cellsOf 9 = 1 := by kernel_rfl
theorem cells_inf : Tryz.prog.cellsOf 98 = 6 := by kernel_rfl

theorem len6 {α : Type} : ∀ (l : List α), l.length = 6 → ∃ a b c d e f, l = [a, b, c, d, e, f]
  | [a, b, c, d, e, f], _ => ⟨a, b, c, d, e, f, rfl⟩

set_option maxRecDepth 100000 in
theorem inf_of {W : World} {fuel : Nat} {cs : List Value} {d : DataW Unit} {p : List MemPlace} (h : DataW.trod (fun _ => ()) Tryz.prog W 0 (fun _ => true) false fuel 98 cs = some (d, p)) :
    cs = infV (infOf d) := by
  obtain ⟨xs, m, _, hx1, hlen, hn, hf⟩ := DataW.trod_struct Tryz.underlying98 h
  simp only [Prod.mk.injEq] at hx1
  obtain ⟨rfl, _⟩ := hx1
  rw [cells_inf] at hlen
  have hn6 : xs.length = 6 := hn
  obtain ⟨v0, v1, v2, v3, v4, v5, rfl⟩ := len6 cs hlen
  obtain ⟨x0, x1, x2, x3, x4, x5, rfl⟩ := len6 xs hn6
  clear hlen hn hn6 h
  have f0 := hf 0 _ rfl
  have f1 := hf 1 _ rfl
  have f2 := hf 2 _ rfl
  have f3 := hf 3 _ rfl
  have f4 := hf 4 _ rfl
  have f5 := hf 5 _ rfl
  obtain ⟨s, a0, b0, _⟩ := DataW.trod_string Tryz.underlying9 f0
  obtain ⟨n1, a1, b1, _⟩ := DataW.trod_int Tryz.underlying3 f1
  obtain ⟨n2, a2, b2, _⟩ := DataW.trod_int Tryz.underlying3 f2
  obtain ⟨n3, a3, b3, _⟩ := DataW.trod_int Tryz.underlying3 f3
  obtain ⟨n4, a4, b4, _⟩ := DataW.trod_int Tryz.underlying3 f4
  obtain ⟨n5, a5, b5, _⟩ := DataW.trod_int Tryz.underlying3 f5
  simp [cells_int, cells_str] at a0 a1 a2 a3 a4 a5
  subst b0 b1 b2 b3 b4 b5 a0 a1 a2 a3 a4 a5
  simp [infOf, infV]

theorem tab_of {W : World} {fuel : Nat} {cs : Array Value} {t : TypeId} {p : List MemPlace} (hb : W.heap[1]? = some (.cells cs t (0, 0))) (h : DataW.trod (fun _ => ()) Tryz.prog W 0 (fun _ => true) false fuel 135 cs.toList = some (Rows.laid_scruple_code_operations, p)) : Tab W := by
  obtain ⟨xs, m, _, hx1, hlen, hn, hel⟩ := DataW.trod_array Tryz.underlying135 h
  simp only [Prod.mk.injEq] at hx1
  have e : OPS = xs.map fun x => infOf x.1 := by
    unfold OPS
    rw [hx1.1]
    simp
  refine ⟨(Array.getElem?_eq_some_iff.1 hb).1, fun k x hx j v hv => ?_⟩
  have hk : k < 42 := by have := (List.getElem?_eq_some_iff.1 hx).1; rw [OPS_len] at this; exact this
  have hk' : k < xs.length := by omega
  have h1 := hel k hk
  rw [List.getElem?_eq_getElem hk'] at h1
  have h2 := inf_of h1
  have e2 : infOf xs[k].1 = x := by
    rw [e] at hx
    simpa [hk'] using hx
  have h3 := h2.trans (show infV (infOf (xs.get ⟨k, hk'⟩).1) = infV x by rw [← e2]; rfl)
  rw [cells_inf] at h3
  rw [cell_of_row W 1 _ cs t (0, 0) hb]
  have hj : j < 6 := (List.getElem?_eq_some_iff.1 hv).1
  rw [← h3, List.getElem?_take_of_lt hj, List.getElem?_drop] at hv
  simpa using hv

def seatLaid1 : List (String × DataW Unit) := [("scruple/code.operations", Rows.laid_scruple_code_operations)]

theorem of_laid1 {W : World} (h : laidMetH Tryz.prog seatLaid1 W) : Tab W := by
  rw [MakeChecks.laidMetH_plain _ _ _ (by kernel_rfl)] at h
  obtain ⟨ps, ⟨g0, t0, cs0, f0, p0, q0, hg0, ht0, hv0, hd0, _, hps⟩, _, hfz⟩ := h
  obtain rfl := Option.some.inj (gOps.symm.trans hg0)
  obtain rfl := Option.some.inj (tOps.symm.trans ht0)
  have z0 : 0 < cs0.size := by
    have := (DataW.trod_array Tryz.underlying135 hd0)
    obtain ⟨_, _, _, _, hl, _, _⟩ := this
    rw [show Tryz.prog.cellsOf 135 = 252 by kernel_rfl] at hl
    simp at hl
    omega
  obtain ⟨⟨c, t, hc⟩, _⟩ := hfz 1 0 (by rw [hps]; exact List.mem_append_left _ (List.mem_append_left _ (MemPlace.mem_row.2 ⟨0, z0, rfl⟩)))
  have hv : some cs0 = some c := by rw [← hv0]; unfold World.var?; rw [gOps]; simp [hc]
  cases hv
  exact tab_of hc hd0

/-- the door's own heap meets the condition -/
theorem door_met1 (os : Os) (args : Array Value) : laidMetH Tryz.prog seatLaid1 ((World.doorLaid Tryz.prog 400 os).forCall (fun _ _ => 0) ⟨#[], args, []⟩).memory :=
  laidMetH_of_parts3 (fuel := 8) (laidMet_of_run' 8 (by kernel_rfl) (by kernel_rfl)) (by kernel_rfl) (by kernel_rfl)
end Go.Proofs.YtdlgehnplkeoiaaGreatDoor

namespace Go.Proofs.YtdlgehnplkeoiaaGreatDoor
open Go.ChangeShapes Go.WideShapes Go.ChangeAt Go.RowKit

theorem gOpd : Tryz.prog.globalNamed "scruple/code.operands" = some 0 := by kernel_rfl
theorem tOpd : (Tryz.prog.globals[0]?).map (·.type) = some 134 := by kernel_rfl
theorem cells_opd : Tryz.prog.cellsOf 133 = 2 := by kernel_rfl

theorem len2 {α : Type} : ∀ (l : List α), l.length = 2 → ∃ a b, l = [a, b]
  | [a, b], _ => ⟨a, b, rfl⟩

set_option maxRecDepth 100000 in
theorem opd_of {W : World} {fuel : Nat} {cs : List Value} {d : DataW Unit} {p : List MemPlace} (h : DataW.trod (fun _ => ()) Tryz.prog W 0 (fun _ => true) false fuel 133 cs = some (d, p)) :
    cs = [.int .i64 (opdOf d).1, .int .i64 (opdOf d).2] := by
  obtain ⟨xs, m, _, hx1, hlen, hn, hf⟩ := DataW.trod_struct Tryz.underlying133 h
  simp only [Prod.mk.injEq] at hx1
  obtain ⟨rfl, _⟩ := hx1
  rw [cells_opd] at hlen
  have hn2 : xs.length = 2 := hn
  obtain ⟨v0, v1, rfl⟩ := len2 cs hlen
  obtain ⟨x0, x1, rfl⟩ := len2 xs hn2
  clear hlen hn hn2 h
  have f0 := hf 0 _ rfl
  have f1 := hf 1 _ rfl
  obtain ⟨n0, a0, b0, _⟩ := DataW.trod_int Tryz.underlying3 f0
  obtain ⟨n1, a1, b1, _⟩ := DataW.trod_int Tryz.underlying3 f1
  simp [cells_int] at a0 a1
  subst b0 b1 a0 a1
  simp [opdOf]

theorem tab2_of {W : World} {fuel : Nat} {cs : Array Value} {t : TypeId} {p : List MemPlace} (ht : Tab W) (hb : W.heap[0]? = some (.cells cs t (0, 0))) (h : DataW.trod (fun _ => ()) Tryz.prog W 0 (fun _ => true) false fuel 134 cs.toList = some (Rows.laid_scruple_code_operands, p)) : Tab2 W := by
  obtain ⟨xs, m, _, hx1, hlen, hn, hel⟩ := DataW.trod_array Tryz.underlying134 h
  simp only [Prod.mk.injEq] at hx1
  have e : OPD = xs.map fun x => opdOf x.1 := by
    unfold OPD
    rw [hx1.1]
    simp
  refine ⟨ht, by have h1 := (Array.getElem?_eq_some_iff.1 hb).1; have h2 := ht.big; omega, fun k x hx => ?_⟩
  have hk : k < 6 := by have := (List.getElem?_eq_some_iff.1 hx).1; rw [OPD_len] at this; exact this
  have hk' : k < xs.length := by omega
  have h1 := hel k hk
  rw [List.getElem?_eq_getElem hk'] at h1
  have h2 := opd_of h1
  have e2 : opdOf xs[k].1 = x := by
    rw [e] at hx
    simpa [hk'] using hx
  have h3 := h2.trans (show _ = [Value.int .i64 x.1, .int .i64 x.2] by rw [← e2]; rfl)
  rw [cells_opd] at h3
  rw [cell_of_row W 0 _ cs t (0, 0) hb, cell_of_row W 0 _ cs t (0, 0) hb]
  have q0 := congrArg (·[0]?) h3
  have q1 := congrArg (·[1]?) h3
  simp only [List.getElem?_take_of_lt (show 0 < 2 by omega), List.getElem?_take_of_lt (show 1 < 2 by omega), List.getElem?_drop] at q0 q1
  exact ⟨by simpa using q0, by simpa using q1⟩

def seatLaid2 : List (String × DataW Unit) := [("scruple/code.operations", Rows.laid_scruple_code_operations), ("scruple/code.operands", Rows.laid_scruple_code_operands)]

theorem of_laid2 {W : World} (h : laidMetH Tryz.prog seatLaid2 W) : Tab2 W := by
  rw [MakeChecks.laidMetH_plain _ _ _ (by kernel_rfl)] at h
  obtain ⟨ps, ⟨g0, t0, cs0, f0, p0, q0, hg0, ht0, hv0, hd0, ⟨g1, t1, cs1, f1, p1, q1, hg1, ht1, hv1, hd1, _, hq⟩, hps⟩, _, hfz⟩ := h
  obtain rfl := Option.some.inj (gOps.symm.trans hg0)
  obtain rfl := Option.some.inj (gOpd.symm.trans hg1)
  obtain rfl := Option.some.inj (tOps.symm.trans ht0)
  obtain rfl := Option.some.inj (tOpd.symm.trans ht1)
  have z0 : 0 < cs0.size := by
    obtain ⟨_, _, _, _, hl, _, _⟩ := DataW.trod_array Tryz.underlying135 hd0
    rw [show Tryz.prog.cellsOf 135 = 252 by kernel_rfl] at hl
    simp at hl
    omega
  have z1 : 0 < cs1.size := by
    obtain ⟨_, _, _, _, hl, _, _⟩ := DataW.trod_array Tryz.underlying134 hd1
    rw [show Tryz.prog.cellsOf 134 = 12 by kernel_rfl] at hl
    simp at hl
    omega
  obtain ⟨⟨c, t, hc⟩, _⟩ := hfz 1 0 (by rw [hps]; exact List.mem_append_left _ (List.mem_append_left _ (MemPlace.mem_row.2 ⟨0, z0, rfl⟩)))
  obtain ⟨⟨c', t', hc'⟩, _⟩ := hfz 0 0 (by rw [hps, hq]; exact List.mem_append_right _ (List.mem_append_left _ (List.mem_append_left _ (MemPlace.mem_row.2 ⟨0, z1, rfl⟩))))
  have hv : some cs0 = some c := by rw [← hv0]; unfold World.var?; rw [gOps]; simp [hc]
  have hv' : some cs1 = some c' := by rw [← hv1]; unfold World.var?; rw [gOpd]; simp [hc']
  cases hv
  cases hv'
  exact tab2_of (tab_of hc hd0) hc' hd1

/-- the door's own heap meets the condition -/
theorem door_met2 (os : Os) (args : Array Value) : laidMetH Tryz.prog seatLaid2 ((World.doorLaid Tryz.prog 400 os).forCall (fun _ _ => 0) ⟨#[], args, []⟩).memory :=
  laidMetH_of_parts3 (fuel := 8) (laidMet_of_run' 8 (by kernel_rfl) (by kernel_rfl)) (by kernel_rfl) (by kernel_rfl)
end Go.Proofs.YtdlgehnplkeoiaaGreatDoor

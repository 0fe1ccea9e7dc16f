/-
  Layer 15, the statements' own shown, and the walk of StepNone; conditions: the package's variables.
  What the listed table of operations of the seat gives the walks; no conditions.
  What the listed variables operations and operands of the seat give the walks; no conditions.
  The four listed variables of this seat, as the row lists them; no conditions.
-/
import Derived.Test.YtmnbfcpkaglniaaGreatDoorS47
import Derived.Test.YtmnbfcpkaglniaaGreatDoorS00
import Derived.ProofKit
import Derived.LaidMore
import Derived.Stop.Joined
import Derived.Test.YtmnbfcpkaglniaaGreatDoorS02
set_option linter.unusedVariables false
set_option linter.unusedSimpArgs false
namespace Go.Proofs.YtmnbfcpkaglniaaGreatDoor
open Go.RowKit
set_option linter.unusedVariables false
set_option linter.unusedSimpArgs false
set_option maxRecDepth 100000 in
set_option maxHeartbeats 8000000 in
theorem shown15 (w : World) (hT : Tab2 w) : Calls Tryz.prog 4 #[] w fun e w' => e = .returned (.bool true) ∧ Below w.heap.size w w' := by
  have HT := hide hT
  clear hT
  go_enter Tryz.func4, Tryz.ntmps4
  go_upto_region 2 with fail
  obtain ⟨G, hG⟩ : ∃ G, w.heap.size = G := ⟨_, rfl⟩
  obtain ⟨a, ha⟩ : ∃ a, w.alloc (.cells #[.int .i64 2, .int .i64 2, .string ⟨#[]⟩, .slice none 0 0, .slice none 0 0] 29) = a := ⟨_, rfl⟩
  have a1 : a.heap[G]? = some (.cells #[.int .i64 2, .int .i64 2, .string ⟨#[]⟩, .slice none 0 0, .slice none 0 0] 29 (0, 0)) := by rw [← ha, ← hG]; exact heap_alloc_new _ _
  have a2 : a.heap.size = G + 1 := by rw [← ha, ← hG]; simp
  have a3 : Below w.heap.size w a := by rw [← ha]; exact (Below.refl _ _).alloc (Nat.le_refl _) _
  rw [ha]
  obtain ⟨b, hb⟩ : ∃ b, a.alloc (.cells #[.int .i64 0, .int .i64 0, .int .i64 1, .string ⟨#[1, 0, 9]⟩] 41) = b := ⟨_, rfl⟩
  have b1 : b.heap[G + 1]? = some (.cells #[.int .i64 0, .int .i64 0, .int .i64 1, .string ⟨#[1, 0, 9]⟩] 41 (0, 0)) := by rw [← hb, ← a2]; exact heap_alloc_new _ _
  have b2 : b.heap.size = G + 2 := by rw [← hb]; simp; omega
  have b3 : Below a.heap.size a b := by rw [← hb]; exact (Below.refl _ _).alloc (Nat.le_refl _) _
  rw [hb]
  obtain ⟨c, hc⟩ : ∃ c, b.alloc (.cells #[.string ⟨#[102]⟩, .int .i64 0] 44) = c := ⟨_, rfl⟩
  have c1 : c.heap[G + 1 + 1]? = some (.cells #[.string ⟨#[102]⟩, .int .i64 0] 44 (0, 0)) := by rw [← hc, show G + 1 + 1 = b.heap.size by omega]; exact heap_alloc_new _ _
  have c2 : c.heap.size = G + 3 := by rw [← hc]; simp; omega
  have c3 : Below b.heap.size b c := by rw [← hc]; exact (Below.refl _ _).alloc (Nat.le_refl _) _
  rw [hc]
  rw [hG]
  obtain ⟨d, hd⟩ : ∃ d, c.alloc (.cells #[.slice (some ⟨G, 0, none⟩) 1 1, .slice (some ⟨G + 1, 0, none⟩) 1 1, .slice (some ⟨G + 1 + 1, 0, none⟩) 1 1] 47) = d := ⟨_, rfl⟩
  have d1 : d.heap[G + 3]? = some (.cells #[.slice (some ⟨G, 0, none⟩) 1 1, .slice (some ⟨G + 1, 0, none⟩) 1 1, .slice (some ⟨G + 1 + 1, 0, none⟩) 1 1] 47 (0, 0)) := by rw [← hd, ← c2]; exact heap_alloc_new _ _
  have d3 : Below c.heap.size c d := by rw [← hd]; exact (Below.refl _ _).alloc (Nat.le_refl _) _
  have d2 : d.heap.size = G + 4 := by rw [← hd]; simp; omega
  rw [hd]
  obtain ⟨M, hMM⟩ : ∃ M, G + 1 + 1 + 1 = M := ⟨_, rfl⟩
  have dM : d.heap[M]? = some (.cells #[.slice (some ⟨G, 0, none⟩) 1 1, .slice (some ⟨G + 1, 0, none⟩) 1 1, .slice (some ⟨G + 1 + 1, 0, none⟩) 1 1] 47 (0, 0)) := by rw [← hMM]; exact d1
  try rw [hMM]
  have BD : Hid (Below w.heap.size w d) := hide (a3.trans ((b3.mono (by omega)).trans ((c3.mono (by omega)).trans (d3.mono (by omega)))))
  have CELLS : Hid (d.heap[G]? = some (.cells #[.int .i64 2, .int .i64 2, .string ⟨#[]⟩, .slice none 0 0, .slice none 0 0] 29 (0, 0)) ∧ d.heap[G + 1]? = some (.cells #[.int .i64 0, .int .i64 0, .int .i64 1, .string ⟨#[1, 0, 9]⟩] 41 (0, 0)) ∧ d.heap[G + 1 + 1]? = some (.cells #[.string ⟨#[102]⟩, .int .i64 0] 44 (0, 0)) ∧ d.heap.size = G + 4) :=
    hide ⟨(d3.block G (by omega)).trans ((c3.block G (by omega)).trans ((b3.block G (by omega)).trans a1)), (d3.block _ (by omega)).trans ((c3.block _ (by omega)).trans b1), (d3.block _ (by omega)).trans c1, d2⟩
  have CS := hide (snew_any d)
  have HM := hide dM
  clear ha hb hc hd a1 a2 a3 b1 b2 b3 c1 c2 c3 d1 d2 d3 dM
  go_wp2_with fail
  refine (unhide CS).mono ?_
  rintro e w1 ⟨sb, rfl, x1⟩
  have B1 := hide ((unhide BD).trans (x1.mono (unhide BD).size))
  have CN := hide (by
    obtain ⟨h0, h1, h2, h3⟩ := unhide CELLS
    have hs := x1.size
    have g0 := (x1.block G (by omega)).trans h0
    have g1 := (x1.block (G + 1) (by omega)).trans h1
    have g2 := (x1.block (G + 1 + 1) (by omega)).trans h2
    exact new_shown (sb := sb) ((unhide HT).below (unhide B1)) (shS_is (by omega) (by omega) (by omega) g0 g1 g2) g0 g1)
  have m1 := (x1.block M (lt_of_row (unhide HM))).trans (unhide HM)
  obtain ⟨t0, t1, t2⟩ := row_cell3 m1
  clear x1 m1 CS HM CELLS BD
  go_wp2_with fail
  refine (unhide CN).mono ?_
  rintro e w2 ⟨q, rfl, ⟨m, al, ak, cl, ck, zc, rfl, hlo, hem, hcv, hR⟩, x2⟩
  have B2 := hide ((unhide B1).trans (x2.mono (unhide B1).size))
  have hle := (unhide B1).size
  have CR := hide (run_shown hcv hR)
  have HEm := hide hem
  have HLo := hide (And.intro hlo hle)
  clear hcv hR x2 CN t0 t1 t2 B1 hem hlo hle
  go_wp2_with fail
  refine (unhide CR).mono ?_
  rintro e w3 ⟨rfl, hq3, hg3, x3⟩
  have B3 : Hid (Below w.heap.size w w3) := hide ((unhide B2).trans (x3.mono (by rw [(unhide HLo).1]; exact (unhide HLo).2)))
  have CV := hide (view_shown (unhide HEm) hq3 hg3)
  clear hq3 hg3 x3 CR B2 HEm HLo
  go_wp2_with fail
  refine (unhide CV).mono ?_
  rintro e w4 ⟨am, cm, an, cn, rfl, x4⟩
  have B4 := hide ((unhide B3).trans (x4.mono (unhide B3).size))
  clear x4 CV B3
  go_wp2_with fail
  go_ret
  exact ⟨rfl, (unhide B4).alloc (unhide B4).size _⟩
set_option maxRecDepth 100000 in
set_option maxHeartbeats 8000000 in
theorem none_walk (most : Int) (w : World) (hT : Tab2 w) : Calls Tryz.prog 3 #[.int .i64 most] w fun e w' => e = .returned (.bool true) ∧ Below w.heap.size w w' := by
  have CS := hide (shown15 w hT)
  clear hT
  go_enter Tryz.func3, Tryz.ntmps3
  go_wp2_with fail
  refine (unhide CS).mono ?_
  rintro e w1 ⟨rfl, x1⟩
  have B1 := hide x1
  have C1 := hide (step_none0 w1)
  clear x1 CS
  go_wp2_with fail
  refine (unhide C1).mono ?_
  rintro e w2 ⟨rfl, e1⟩
  rw [e1]
  clear e1 C1 w2
  have C1 := hide (run_none0 most w1)
  go_wp2_with fail
  refine (unhide C1).mono ?_
  rintro e w2 ⟨rfl, e1⟩
  rw [e1]
  clear e1 C1 w2
  have C1 := hide (view_none0 w1)
  go_wp2_with fail
  refine (unhide C1).mono ?_
  rintro e w2 ⟨rfl, x2⟩
  have B2 := hide ((unhide B1).trans (x2.mono (unhide B1).size))
  clear x2 C1 B1
  go_upto_region 6 with fail
  obtain ⟨V, hV⟩ : ∃ V, w2.heap.size = V := ⟨_, rfl⟩
  obtain ⟨wv, hwv⟩ : ∃ u, w2.alloc (.cells #[.slice none 0 0, .int .i64 0, .int .i64 0, .bool false, .int .i64 0, .int .i64 0, .int .i64 0, .string ⟨#[]⟩, .slice none 0 0, .slice none 0 0, .int .i64 0, .int .i64 0] 33) = u := ⟨_, rfl⟩
  have v1 : wv.heap[V]? = some (.cells #[.slice none 0 0, .int .i64 0, .int .i64 0, .bool false, .int .i64 0, .int .i64 0, .int .i64 0, .string ⟨#[]⟩, .slice none 0 0, .slice none 0 0, .int .i64 0, .int .i64 0] 33 (0, 0)) := by rw [← hwv, ← hV]; exact heap_alloc_new _ _
  have Bv : Hid (Below w.heap.size w wv) := hide (by rw [← hwv]; exact (unhide B2).alloc (unhide B2).size _)
  rw [hwv]
  rw [hV]
  clear hwv hV B2
  have C1 := hide (next_none0 wv)
  go_wp2_with fail
  refine (unhide C1).mono ?_
  rintro e w3 ⟨rfl, x3⟩
  have v3 := (x3.block V (lt_of_row v1)).trans v1
  have B3 := hide ((unhide Bv).trans (x3.mono (unhide Bv).size))
  have hvlt := lt_of_row v3
  have k0 : w3.cell? ⟨V, 0, none⟩ = some (.slice none 0 0) := by rw [cell_of_row w3 _ 0 _ _ (0, 0) v3]; rfl
  have k1 : w3.cell? ⟨V, 1, none⟩ = some (.int .i64 0) := by rw [cell_of_row w3 _ 1 _ _ (0, 0) v3]; rfl
  have k2 : w3.cell? ⟨V, 2, none⟩ = some (.int .i64 0) := by rw [cell_of_row w3 _ 2 _ _ (0, 0) v3]; rfl
  have k3 : w3.cell? ⟨V, 3, none⟩ = some (.bool false) := by rw [cell_of_row w3 _ 3 _ _ (0, 0) v3]; rfl
  have k4 : w3.cell? ⟨V, 4, none⟩ = some (.int .i64 0) := by rw [cell_of_row w3 _ 4 _ _ (0, 0) v3]; rfl
  have k5 : w3.cell? ⟨V, 5, none⟩ = some (.int .i64 0) := by rw [cell_of_row w3 _ 5 _ _ (0, 0) v3]; rfl
  have k6 : w3.cell? ⟨V, 6, none⟩ = some (.int .i64 0) := by rw [cell_of_row w3 _ 6 _ _ (0, 0) v3]; rfl
  have k7 : w3.cell? ⟨V, 7, none⟩ = some (.string ⟨#[]⟩) := by rw [cell_of_row w3 _ 7 _ _ (0, 0) v3]; rfl
  have k8 : w3.cell? ⟨V, 8, none⟩ = some (.slice none 0 0) := by rw [cell_of_row w3 _ 8 _ _ (0, 0) v3]; rfl
  have k9 : w3.cell? ⟨V, 9, none⟩ = some (.slice none 0 0) := by rw [cell_of_row w3 _ 9 _ _ (0, 0) v3]; rfl
  have k10 : w3.cell? ⟨V, 10, none⟩ = some (.int .i64 0) := by rw [cell_of_row w3 _ 10 _ _ (0, 0) v3]; rfl
  have k11 : w3.cell? ⟨V, 11, none⟩ = some (.int .i64 0) := by rw [cell_of_row w3 _ 11 _ _ (0, 0) v3]; rfl
  clear x3 v1 C1 Bv v3
  go_wp2_with fail
  go_ret
  exact ⟨rfl, (unhide B3).alloc (unhide B3).size _⟩
open Go.ChangeShapes Go.WideShapes Go.ChangeAt Go.RowKit
theorem own : ownKnob Tryz.prog.godebug = none := by kernel_rfl
theorem laidOut : laidOutB Tryz.prog = true := by kernel_rfl
theorem gOps : Tryz.prog.globalNamed "scruple/code.operations" = some 1 := by kernel_rfl
theorem tOps : (Tryz.prog.globals[1]?).map (·.type) = some 142 := by kernel_rfl
theorem cells_int : Tryz.prog.cellsOf 3 = 1 := by kernel_rfl
theorem cells_str : Tryz.prog.cellsOf 9 = 1 := by kernel_rfl
theorem cells_inf : Tryz.prog.cellsOf 98 = 6 := by kernel_rfl
theorem len6 {α : Type} : ∀ (l : List α), l.length = 6 → ∃ a b c d e f, l = [a, b, c, d, e, f]
  | [a, b, c, d, e, f], _ => ⟨a, b, c, d, e, f, rfl⟩
set_option maxRecDepth 100000 in
theorem inf_of {W : World} {fuel : Nat} {cs : List Value} {d : DataW Unit} {p : List MemPlace} (h : DataW.trod (fun _ => ()) Tryz.prog W 0 (fun _ => true) false fuel 98 cs = some (d, p)) :
    cs = infV (infOf d) := by
  obtain ⟨xs, m, _, hx1, hlen, hn, hf⟩ := DataW.trod_struct Tryz.underlying98 h
  simp only [Prod.mk.injEq] at hx1
  obtain ⟨rfl, _⟩ := hx1
  rw [cells_inf] at hlen
  have hn6 : xs.length = 6 := hn
  obtain ⟨v0, v1, v2, v3, v4, v5, rfl⟩ := len6 cs hlen
  obtain ⟨x0, x1, x2, x3, x4, x5, rfl⟩ := len6 xs hn6
  clear hlen hn hn6 h
  have f0 := hf 0 _ rfl
  have f1 := hf 1 _ rfl
  have f2 := hf 2 _ rfl
  have f3 := hf 3 _ rfl
  have f4 := hf 4 _ rfl
  have f5 := hf 5 _ rfl
  obtain ⟨s, a0, b0, _⟩ := DataW.trod_string Tryz.underlying9 f0
  obtain ⟨n1, a1, b1, _⟩ := DataW.trod_int Tryz.underlying3 f1
  obtain ⟨n2, a2, b2, _⟩ := DataW.trod_int Tryz.underlying3 f2
  obtain ⟨n3, a3, b3, _⟩ := DataW.trod_int Tryz.underlying3 f3
  obtain ⟨n4, a4, b4, _⟩ := DataW.trod_int Tryz.underlying3 f4
  obtain ⟨n5, a5, b5, _⟩ := DataW.trod_int Tryz.underlying3 f5
  simp [cells_int, cells_str] at a0 a1 a2 a3 a4 a5
  subst b0 b1 b2 b3 b4 b5 a0 a1 a2 a3 a4 a5
  simp [infOf, infV]
theorem tab_of {W : World} {fuel : Nat} {cs : Array Value} {t : TypeId} {p : List MemPlace} (hb : W.heap[1]? = some (.cells cs t (0, 0))) (h : DataW.trod (fun _ => ()) Tryz.prog W 0 (fun _ => true) false fuel 142 cs.toList = some (Rows.laid_scruple_code_operations, p)) : Tab W := by
  obtain ⟨xs, m, _, hx1, hlen, hn, hel⟩ := DataW.trod_array Tryz.underlying142 h
  simp only [Prod.mk.injEq] at hx1
  have e : OPS = xs.map fun x => infOf x.1 := by
    unfold OPS
    rw [hx1.1]
    simp
  refine ⟨(Array.getElem?_eq_some_iff.1 hb).1, fun k x hx j v hv => ?_⟩
  have hk : k < 42 := by have := (List.getElem?_eq_some_iff.1 hx).1; rw [OPS_len] at this; exact this
  have hk' : k < xs.length := by omega
  have h1 := hel k hk
  rw [List.getElem?_eq_getElem hk'] at h1
  have h2 := inf_of h1
  have e2 : infOf xs[k].1 = x := by
    rw [e] at hx
    simpa [hk'] using hx
  have h3 := h2.trans (show infV (infOf (xs.get ⟨k, hk'⟩).1) = infV x by rw [← e2]; rfl)
  rw [cells_inf] at h3
  rw [cell_of_row W 1 _ cs t (0, 0) hb]
  have hj : j < 6 := (List.getElem?_eq_some_iff.1 hv).1
  rw [← h3, List.getElem?_take_of_lt hj, List.getElem?_drop] at hv
  simpa using hv
def seatLaid1 : List (String × DataW Unit) := [("scruple/code.operations", Rows.laid_scruple_code_operations)]
theorem of_laid1 {W : World} (h : laidMetH Tryz.prog seatLaid1 W) : Tab W := by
  rw [MakeChecks.laidMetH_plain _ _ _ (by kernel_rfl)] at h
  obtain ⟨ps, ⟨g0, t0, cs0, f0, p0, q0, hg0, ht0, hv0, hd0, _, hps⟩, _, hfz⟩ := h
  obtain rfl := Option.some.inj (gOps.symm.trans hg0)
  obtain rfl := Option.some.inj (tOps.symm.trans ht0)
  have z0 : 0 < cs0.size := by
    have := (DataW.trod_array Tryz.underlying142 hd0)
    obtain ⟨_, _, _, _, hl, _, _⟩ := this
    rw [show Tryz.prog.cellsOf 142 = 252 by kernel_rfl] at hl
    simp at hl
    omega
  obtain ⟨⟨c, t, hc⟩, _⟩ := hfz 1 0 (by rw [hps]; exact List.mem_append_left _ (List.mem_append_left _ (MemPlace.mem_row.2 ⟨0, z0, rfl⟩)))
  have hv : some cs0 = some c := by rw [← hv0]; unfold World.var?; rw [gOps]; simp [hc]
  cases hv
  exact tab_of hc hd0
/-- the door's own heap meets the condition -/
theorem door_met1 (os : Os) (args : Array Value) : laidMetH Tryz.prog seatLaid1 ((World.doorLaid Tryz.prog 400 os).forCall (fun _ _ => 0) ⟨#[], args, []⟩).memory :=
  laidMetH_of_parts3 (fuel := 8) (laidMet_of_run' 8 (by kernel_rfl) (by kernel_rfl)) (by kernel_rfl) (by kernel_rfl)
open Go.ChangeShapes Go.WideShapes Go.ChangeAt Go.RowKit
theorem gOpd : Tryz.prog.globalNamed "scruple/code.operands" = some 0 := by kernel_rfl
theorem tOpd : (Tryz.prog.globals[0]?).map (·.type) = some 139 := by kernel_rfl
theorem cells_opd : Tryz.prog.cellsOf 138 = 2 := by kernel_rfl
theorem len2 {α : Type} : ∀ (l : List α), l.length = 2 → ∃ a b, l = [a, b]
  | [a, b], _ => ⟨a, b, rfl⟩
set_option maxRecDepth 100000 in
theorem opd_of {W : World} {fuel : Nat} {cs : List Value} {d : DataW Unit} {p : List MemPlace} (h : DataW.trod (fun _ => ()) Tryz.prog W 0 (fun _ => true) false fuel 138 cs = some (d, p)) :
    cs = [.int .i64 (opdOf d).1, .int .i64 (opdOf d).2] := by
  obtain ⟨xs, m, _, hx1, hlen, hn, hf⟩ := DataW.trod_struct Tryz.underlying138 h
  simp only [Prod.mk.injEq] at hx1
  obtain ⟨rfl, _⟩ := hx1
  rw [cells_opd] at hlen
  have hn2 : xs.length = 2 := hn
  obtain ⟨v0, v1, rfl⟩ := len2 cs hlen
  obtain ⟨x0, x1, rfl⟩ := len2 xs hn2
  clear hlen hn hn2 h
  have f0 := hf 0 _ rfl
  have f1 := hf 1 _ rfl
  obtain ⟨n0, a0, b0, _⟩ := DataW.trod_int Tryz.underlying3 f0
  obtain ⟨n1, a1, b1, _⟩ := DataW.trod_int Tryz.underlying3 f1
  simp [cells_int] at a0 a1
  subst b0 b1 a0 a1
  simp [opdOf]
theorem tab2_of {W : World} {fuel : Nat} {cs : Array Value} {t : TypeId} {p : List MemPlace} (ht : Tab W) (hb : W.heap[0]? = some (.cells cs t (0, 0))) (h : DataW.trod (fun _ => ()) Tryz.prog W 0 (fun _ => true) false fuel 139 cs.toList = some (Rows.laid_scruple_code_operands, p)) : Tab2 W := by
  obtain ⟨xs, m, _, hx1, hlen, hn, hel⟩ := DataW.trod_array Tryz.underlying139 h
  simp only [Prod.mk.injEq] at hx1
  have e : OPD = xs.map fun x => opdOf x.1 := by
    unfold OPD
    rw [hx1.1]
    simp
  refine ⟨ht, by have h1 := (Array.getElem?_eq_some_iff.1 hb).1; have h2 := ht.big; omega, fun k x hx => ?_⟩
  have hk : k < 6 := by have := (List.getElem?_eq_some_iff.1 hx).1; rw [OPD_len] at this; exact this
  have hk' : k < xs.length := by omega
  have h1 := hel k hk
  rw [List.getElem?_eq_getElem hk'] at h1
  have h2 := opd_of h1
  have e2 : opdOf xs[k].1 = x := by
    rw [e] at hx
    simpa [hk'] using hx
  have h3 := h2.trans (show _ = [Value.int .i64 x.1, .int .i64 x.2] by rw [← e2]; rfl)
  rw [cells_opd] at h3
  rw [cell_of_row W 0 _ cs t (0, 0) hb, cell_of_row W 0 _ cs t (0, 0) hb]
  have q0 := congrArg (·[0]?) h3
  have q1 := congrArg (·[1]?) h3
  simp only [List.getElem?_take_of_lt (show 0 < 2 by omega), List.getElem?_take_of_lt (show 1 < 2 by omega), List.getElem?_drop] at q0 q1
  exact ⟨by simpa using q0, by simpa using q1⟩
def seatLaid2 : List (String × DataW Unit) := [("scruple/code.operations", Rows.laid_scruple_code_operations), ("scruple/code.operands", Rows.laid_scruple_code_operands)]
theorem of_laid2 {W : World} (h : laidMetH Tryz.prog seatLaid2 W) : Tab2 W := by
  rw [MakeChecks.laidMetH_plain _ _ _ (by kernel_rfl)] at h
  obtain ⟨ps, ⟨g0, t0, cs0, f0, p0, q0, hg0, ht0, hv0, hd0, ⟨g1, t1, cs1, f1, p1, q1, hg1, ht1, hv1, hd1, _, hq⟩, hps⟩, _, hfz⟩ := h
  obtain rfl := Option.some.inj (gOps.symm.trans hg0)
  obtain rfl := Option.some.inj (gOpd.symm.trans hg1)
  obtain rfl := Option.some.inj (tOps.symm.trans ht0)
  obtain rfl := Option.some.inj (tOpd.symm.trans ht1)
  have z0 : 0 < cs0.size := by
    obtain ⟨_, _, _, _, hl, _, _⟩ := DataW.trod_array Tryz.underlying142 hd0
    rw [show Tryz.prog.cellsOf 142 = 252 by kernel_rfl] at hl
    simp at hl
    omega
  have z1 : 0 < cs1.size := by
    obtain ⟨_, _, _, _, hl, _, _⟩ := DataW.trod_array Tryz.underlying139 hd1
    rw [show Tryz.prog.cellsOf 139 = 12 by kernel_rfl] at hl
    simp at hl
    omega
  obtain ⟨⟨c, t, hc⟩, _⟩ := hfz 1 0 (by rw [hps]; exact List.mem_append_left _ (List.mem_append_left _ (MemPlace.mem_row.2 ⟨0, z0, rfl⟩)))
  obtain ⟨⟨c', t', hc'⟩, _⟩ := hfz 0 0 (by rw [hps, hq]; exact List.mem_append_right _ (List.mem_append_left _ (List.mem_append_left _ (MemPlace.mem_row.2 ⟨0, z1, rfl⟩))))
  have hv : some cs0 = some c := by rw [← hv0]; unfold World.var?; rw [gOps]; simp [hc]
  have hv' : some cs1 = some c' := by rw [← hv1]; unfold World.var?; rw [gOpd]; simp [hc']
  cases hv
  cases hv'
  exact tab2_of (tab_of hc hd0) hc' hd1
/-- the door's own heap meets the condition -/
theorem door_met2 (os : Os) (args : Array Value) : laidMetH Tryz.prog seatLaid2 ((World.doorLaid Tryz.prog 400 os).forCall (fun _ _ => 0) ⟨#[], args, []⟩).memory :=
  laidMetH_of_parts3 (fuel := 8) (laidMet_of_run' 8 (by kernel_rfl) (by kernel_rfl)) (by kernel_rfl) (by kernel_rfl)
def seatLaid4 : List (String × DataW Unit) := [("scruple/code.operations", Rows.laid_scruple_code_operations), ("scruple/code.operands", Rows.laid_scruple_code_operands), ("scruple/hash.start", Rows.laid_scruple_hash_start), ("scruple/hash.roundWords", Rows.laid_scruple_hash_roundWords)]
theorem of_laid4 {W : World} (h : laidMetH Tryz.prog seatLaid4 W) : Tab2 W := by
  rw [MakeChecks.laidMetH_plain _ _ _ (by kernel_rfl)] at h
  obtain ⟨ps, ⟨g0, t0, cs0, f0, p0, q0, hg0, ht0, hv0, hd0, ⟨g1, t1, cs1, f1, p1, q1, hg1, ht1, hv1, hd1, _, hq⟩, hps⟩, _, hfz⟩ := h
  obtain rfl := Option.some.inj (gOps.symm.trans hg0)
  obtain rfl := Option.some.inj (gOpd.symm.trans hg1)
  obtain rfl := Option.some.inj (tOps.symm.trans ht0)
  obtain rfl := Option.some.inj (tOpd.symm.trans ht1)
  have z0 : 0 < cs0.size := by
    obtain ⟨_, _, _, _, hl, _, _⟩ := DataW.trod_array Tryz.underlying142 hd0
    rw [show Tryz.prog.cellsOf 142 = 252 by kernel_rfl] at hl
    simp at hl
    omega
  have z1 : 0 < cs1.size := by
    obtain ⟨_, _, _, _, hl, _, _⟩ := DataW.trod_array Tryz.underlying139 hd1
    rw [show Tryz.prog.cellsOf 139 = 12 by kernel_rfl] at hl
    simp at hl
    omega
  obtain ⟨⟨c, t, hc⟩, _⟩ := hfz 1 0 (by rw [hps]; exact List.mem_append_left _ (List.mem_append_left _ (MemPlace.mem_row.2 ⟨0, z0, rfl⟩)))
  obtain ⟨⟨c', t', hc'⟩, _⟩ := hfz 0 0 (by rw [hps, hq]; exact List.mem_append_right _ (List.mem_append_left _ (List.mem_append_left _ (MemPlace.mem_row.2 ⟨0, z1, rfl⟩))))
  have hv : some cs0 = some c := by rw [← hv0]; unfold World.var?; rw [gOps]; simp [hc]
  have hv' : some cs1 = some c' := by rw [← hv1]; unfold World.var?; rw [gOpd]; simp [hc']
  cases hv
  cases hv'
  exact tab2_of (tab_of hc hd0) hc' hd1
/-- the door's own heap meets the condition -/
theorem door_met4 (os : Os) (args : Array Value) : laidMetH Tryz.prog seatLaid4 ((World.doorLaid Tryz.prog 400 os).forCall (fun _ _ => 0) ⟨#[], args, []⟩).memory :=
  laidMetH_of_parts3 (fuel := 8) (laidMet_of_run' 8 (by kernel_rfl) (by kernel_rfl)) (by kernel_rfl) (by kernel_rfl)
end Go.Proofs.YtmnbfcpkaglniaaGreatDoor

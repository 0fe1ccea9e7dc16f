/-
  within, index (prim); no conditions but the form's own reach.
-/
import Derived.Test.YtgkmdjmigehmeaaGreatDoorR37
import Derived.Deep.RegionHeld3
namespace Go.Proofs.YtgkmdjmigehmeaaGreatDoor
set_option linter.unusedVariables false
set_option linter.unusedSimpArgs false
set_option maxRecDepth 100000
set_option maxHeartbeats 16000000
open Go.RowKit Go.Shelf
theorem below_drew_toP {B : Nat} {a w : World} (h : Below B a w) : Below B a w.drew := ⟨h.os, h.tape, h.output, h.size, h.block⟩
theorem below_drewP {B : Nat} {a w : World} (h : Below B a w) (q : Nat) : Below B a (w.drewN q) := ⟨h.os, h.tape, h.output, h.size, h.block⟩
theorem shape9P {w : World} {P : Nat → Prop} {v : Vl} {x : Value} (h : IsP w P v x) : ∃ p0 p1 p2 p3 p4 p5 p6 p7 p8, x = .agg #[.int .i64 p0, .int .i64 p1, .string p2, .slice p3 p4 p5, .slice p6 p7 p8] := by
 obtain ⟨k', n', s', l', ks', al', ak', cl', ck', _, hx⟩ := h.shape
 exact ⟨_, _, _, _, _, _, _, _, _, hx⟩
theorem within_any (e0 e1 : Int) (e2 : ByteArray) (e3 : Option Addr) (e4 e5 : Nat) (e6 : Option Addr) (e7 e8 : Nat) (a : Addr) (n cl : Nat) (p0 p1 : Int) (p2 : ByteArray) (p3 : Option Addr) (p4 p5 : Nat) (p6 : Option Addr) (p7 p8 : Nat) (q0 q1 : Int) (q2 : ByteArray) (q3 : Option Addr) (q4 q5 : Nat) (q6 : Option Addr) (q7 q8 : Nat) (x y : Vl) (B : Nat) (w : World) (hn : 2 ≤ n) (ha : a.block < w.heap.size) (h00 : w.cell? a = some (.int .i64 p0)) (h01 : w.cell? ⟨a.block, a.off + 1, none⟩ = some (.int .i64 p1)) (h02 : w.cell? ⟨a.block, a.off + 2, none⟩ = some (.string p2)) (h03 : w.cell? ⟨a.block, a.off + 3, none⟩ = some (.slice p3 p4 p5)) (h04 : w.cell? ⟨a.block, a.off + 4, none⟩ = some (.slice p6 p7 p8)) (h10 : w.cell? ⟨a.block, a.off + 5, none⟩ = some (.int .i64 q0)) (h11 : w.cell? ⟨a.block, a.off + 5 + 1, none⟩ = some (.int .i64 q1)) (h12 : w.cell? ⟨a.block, a.off + 5 + 2, none⟩ = some (.string q2)) (h13 : w.cell? ⟨a.block, a.off + 5 + 3, none⟩ = some (.slice q3 q4 q5)) (h14 : w.cell? ⟨a.block, a.off + 5 + 4, none⟩ = some (.slice q6 q7 q8)) (hx : IsV w B x (.agg #[.int .i64 p0, .int .i64 p1, .string p2, .slice p3 p4 p5, .slice p6 p7 p8])) (hy : IsV w B y (.agg #[.int .i64 q0, .int .i64 q1, .string q2, .slice q3 q4 q5, .slice q6 q7 q8])) (hBs : B ≤ w.heap.size) :
  Calls Tryz.prog 106 #[.agg #[.int .i64 e0, .int .i64 e1, .string e2, .slice e3 e4 e5, .slice e6 e7 e8, .slice (some a) n cl]] w fun e w' => e = .returned (.bool (decide (0 ≤ y.n) && decide (y.n < cntO x))) ∧ Below w.heap.size w w' := by
 obtain ⟨gb, hgb⟩ : ∃ gb, w.heap.size = gb := ⟨_, rfl⟩
 obtain ⟨v1, hv1⟩ : ∃ v1, w.alloc (.cells #[.int .i64 e0, .int .i64 e1, .string e2, .slice e3 e4 e5, .slice e6 e7 e8, .slice (some a) n cl] 50) = v1 := ⟨_, rfl⟩
 have n1 : v1.heap[gb]? = some (.cells #[.int .i64 e0, .int .i64 e1, .string e2, .slice e3 e4 e5, .slice e6 e7 e8, .slice (some a) n cl] 50 (0, 0)) := by rw [← hv1, ← hgb]; exact heap_alloc_new w _
 have b1 : Below w.heap.size w v1 := by rw [← hv1]; exact (Below.refl _ _).alloc (Nat.le_refl _) _
 obtain ⟨t0, t1, t2, t3, t4, t5⟩ := block6 n1
 have hA00 : v1.cell? a = some (.int .i64 p0) := (b1.cell (p := a) ha).trans h00
 have hA01 : v1.cell? ⟨a.block, a.off + 1, none⟩ = some (.int .i64 p1) := (b1.cell (p := ⟨a.block, a.off + 1, none⟩) ha).trans h01
 have hA02 : v1.cell? ⟨a.block, a.off + 2, none⟩ = some (.string p2) := (b1.cell (p := ⟨a.block, a.off + 2, none⟩) ha).trans h02
 have hA03 : v1.cell? ⟨a.block, a.off + 3, none⟩ = some (.slice p3 p4 p5) := (b1.cell (p := ⟨a.block, a.off + 3, none⟩) ha).trans h03
 have hA04 : v1.cell? ⟨a.block, a.off + 4, none⟩ = some (.slice p6 p7 p8) := (b1.cell (p := ⟨a.block, a.off + 4, none⟩) ha).trans h04
 have hA10 : v1.cell? ⟨a.block, a.off + 5, none⟩ = some (.int .i64 q0) := (b1.cell (p := ⟨a.block, a.off + 5, none⟩) ha).trans h10
 have hA11 : v1.cell? ⟨a.block, a.off + 5 + 1, none⟩ = some (.int .i64 q1) := (b1.cell (p := ⟨a.block, a.off + 5 + 1, none⟩) ha).trans h11
 have hA12 : v1.cell? ⟨a.block, a.off + 5 + 2, none⟩ = some (.string q2) := (b1.cell (p := ⟨a.block, a.off + 5 + 2, none⟩) ha).trans h12
 have hA13 : v1.cell? ⟨a.block, a.off + 5 + 3, none⟩ = some (.slice q3 q4 q5) := (b1.cell (p := ⟨a.block, a.off + 5 + 3, none⟩) ha).trans h13
 have hA14 : v1.cell? ⟨a.block, a.off + 5 + 4, none⟩ = some (.slice q6 q7 q8) := (b1.cell (p := ⟨a.block, a.off + 5 + 4, none⟩) ha).trans h14
 have hl0 : (0 : Int) < (n : Int) := by omega
 have hl1 : (1 : Int) < (n : Int) := by omega
 have hky : q1 = y.n := by
  obtain ⟨k1, n1, s1, l1, ks1⟩ := y
  exact (IsP.at hy).2.1
 rw [← hky]
 obtain ⟨c, hcc⟩ : ∃ c, cntO x = c := ⟨_, rfl⟩
 have CC : Hid (Calls Tryz.prog 109 #[.agg #[.int .i64 e0, .int .i64 e1, .string e2, .slice e3 e4 e5, .slice e6 e7 e8, .slice (some a) n cl]] v1.drew fun e w' => e = .returned (.int .i64 c) ∧ Below v1.drew.heap.size v1.drew w') := hide (by
  have := count_any e0 e1 e2 e3 e4 e5 e6 e7 e8 a n cl p0 p1 p2 p3 p4 p5 p6 p7 p8 x B v1.drew (by omega) (Nat.lt_of_lt_of_le ha b1.size) hA00 hA01 hA02 hA03 hA04 (IsV.mono (Below.mono (below_drew_toP b1) hBs) hx) (Nat.le_trans hBs b1.size)
  rw [hcc] at this
  exact this)
 rw [hcc]
 have HB := hide b1
 clear n1 b1 hx hy hky hcc h00 h01 h02 h03 h04 h10 h11 h12 h13 h14
 by_cases hq : 0 ≤ q1
 ·have d1 : decide (0 ≤ q1) = true := decide_eq_true hq
  have d2 : decide ((0 : Int) ≤ q1) = true := decide_eq_true hq
  go_enter Tryz.func106, Tryz.ntmps106
  go_upto_region 1 with fail
  go_region_held3 (fun w' => w'.cell? ⟨gb, 0, none⟩ = some (.int .i64 e0) ∧ w'.cell? ⟨gb, 1, none⟩ = some (.int .i64 e1) ∧ w'.cell? ⟨gb, 2, none⟩ = some (.string e2) ∧ w'.cell? ⟨gb, 3, none⟩ = some (.slice e3 e4 e5) ∧ w'.cell? ⟨gb, 4, none⟩ = some (.slice e6 e7 e8) ∧ w'.cell? ⟨gb, 5, none⟩ = some (.slice (some a) n cl) ∧ w'.cell? ⟨a.block, a.off + 5 + 1, none⟩ = some (.int .i64 q1))
   (first | go_keep | (have hb6 := below_drew_of' b5; exact ⟨cell_later hb6 t0, cell_later hb6 t1, cell_later hb6 t2, cell_later hb6 t3, cell_later hb6 t4, cell_later hb6 t5, cell_later hb6 hA11⟩))
   (first | (go_at_call 109; refine (uh CC).mono ?_; rintro e w5 ⟨rfl, b5⟩))
  have HX5 : Hid (Below w.heap.size w w5) := hide ((uh HB).trans ((below_drew_of' b5).mono (uh HB).size))
  clear b5 CC
  go_wp2_with fail
  go_ret
  exact ⟨by first | rfl | simp [d1], by first | exact uh HX5 | (rw [← hgb]; exact uh HX5)⟩
 ·have d1 : decide (0 ≤ q1) = false := decide_eq_false hq
  have d2 : decide ((0 : Int) ≤ q1) = false := decide_eq_false hq
  go_enter Tryz.func106, Tryz.ntmps106
  go_upto_region 1 with fail
  go_quiet (fail)
  go_wp2_with fail
  go_ret
  exact ⟨by first | rfl | simp [d1], by first | exact below_drewP (uh HB) _ | (rw [← hgb]; exact below_drewP (uh HB) _)⟩
def indexV (x : Vl) (i : Int) : Vl × Int := if (decide (0 ≤ i) && decide (i < cntO x)) = true then (if x.kind = 3 then (nm ((x.s.data.toList.getD i.toNat 0).toNat : Int), 0) else ((x.l[i.toNat]?).getD vlz, 0)) else (vlz, 2)
theorem elem_of {w : World} {B : Nat} {x : Vl} {p0 p1 : Int} {p2 : ByteArray} {p3 : Option Addr} {p4 p5 : Nat} {p6 : Option Addr} {p7 p8 : Nat} (h : IsV w B x (.agg #[.int .i64 p0, .int .i64 p1, .string p2, .slice p3 p4 p5, .slice p6 p7 p8])) (i : Nat) (e9 : Vl) (he : x.l[i]? = some e9) : ∃ (a9 : Addr) (g0 g1 : Int) (g2 : ByteArray) (g3 : Option Addr) (g4 g5 : Nat) (g6 : Option Addr) (g7 g8 : Nat), p3 = some a9 ∧ (w.cell? (a9.add (i * 5)) = some (.int .i64 g0) ∧ w.cell? ⟨(a9.add (i * 5)).block, (a9.add (i * 5)).off + 1, none⟩ = some (.int .i64 g1) ∧ w.cell? ⟨(a9.add (i * 5)).block, (a9.add (i * 5)).off + 2, none⟩ = some (.string g2) ∧ w.cell? ⟨(a9.add (i * 5)).block, (a9.add (i * 5)).off + 3, none⟩ = some (.slice g3 g4 g5) ∧ w.cell? ⟨(a9.add (i * 5)).block, (a9.add (i * 5)).off + 4, none⟩ = some (.slice g6 g7 g8)) ∧ IsV w B e9 (.agg #[.int .i64 g0, .int .i64 g1, .string g2, .slice g3 g4 g5, .slice g6 g7 g8]) := by
 obtain ⟨k, n, s, l, ks⟩ := x
 obtain ⟨_, _, _, hll, _, V, hf, el⟩ := IsP.at h
 have hi : i < l.length := (List.getElem?_eq_some_iff.1 he).1
 have hv := el i e9 he
 obtain ⟨g0, g1, g2, g3, g4, g5, g6, g7, g8, hx⟩ := shape9P hv
 have hVi : V i = [.int .i64 g0, .int .i64 g1, .string g2, .slice g3 g4 g5, .slice g6 g7 g8] := by
  have h4 := congrArg Array.toList (Value.agg.inj hx)
  simpa using h4
 cases p3 with
 | none => have := (hf.nl rfl).1; omega
 | some a9 =>
  have hc := (hf.hl a9 rfl i hi).2
  rw [hVi] at hc hv
  exact ⟨a9, g0, g1, g2, g3, g4, g5, g6, g7, g8, rfl, ⟨hc 0 _ rfl, hc 1 _ rfl, hc 2 _ rfl, hc 3 _ rfl, hc 4 _ rfl⟩, hv⟩
theorem index_op (e0 e1 : Int) (e2 : ByteArray) (e3 : Option Addr) (e4 e5 : Nat) (e6 : Option Addr) (e7 e8 : Nat) (a : Addr) (n cl : Nat) (p0 p1 : Int) (p2 : ByteArray) (p3 : Option Addr) (p4 p5 : Nat) (p6 : Option Addr) (p7 p8 : Nat) (q0 q1 : Int) (q2 : ByteArray) (q3 : Option Addr) (q4 q5 : Nat) (q6 : Option Addr) (q7 q8 : Nat) (x y : Vl) (B : Nat) (w : World) (hn : 2 ≤ n) (ha : a.block < w.heap.size) (h00 : w.cell? a = some (.int .i64 p0)) (h01 : w.cell? ⟨a.block, a.off + 1, none⟩ = some (.int .i64 p1)) (h02 : w.cell? ⟨a.block, a.off + 2, none⟩ = some (.string p2)) (h03 : w.cell? ⟨a.block, a.off + 3, none⟩ = some (.slice p3 p4 p5)) (h04 : w.cell? ⟨a.block, a.off + 4, none⟩ = some (.slice p6 p7 p8)) (h10 : w.cell? ⟨a.block, a.off + 5, none⟩ = some (.int .i64 q0)) (h11 : w.cell? ⟨a.block, a.off + 5 + 1, none⟩ = some (.int .i64 q1)) (h12 : w.cell? ⟨a.block, a.off + 5 + 2, none⟩ = some (.string q2)) (h13 : w.cell? ⟨a.block, a.off + 5 + 3, none⟩ = some (.slice q3 q4 q5)) (h14 : w.cell? ⟨a.block, a.off + 5 + 4, none⟩ = some (.slice q6 q7 q8)) (hx : IsV w B x (.agg #[.int .i64 p0, .int .i64 p1, .string p2, .slice p3 p4 p5, .slice p6 p7 p8])) (hy : IsV w B y (.agg #[.int .i64 q0, .int .i64 q1, .string q2, .slice q3 q4 q5, .slice q6 q7 q8])) (hBs : B ≤ w.heap.size) (hrx : rightB x = true) (hre : ∀ e ∈ x.l, rightB e = true) :
  Calls Tryz.prog 63 #[.agg #[.int .i64 e0, .int .i64 e1, .string e2, .slice e3 e4 e5, .slice e6 e7 e8, .slice (some a) n cl]] w fun e w' => OpPost w (indexV x y.n) e w' := by
 obtain ⟨gb, hgb⟩ : ∃ gb, w.heap.size = gb := ⟨_, rfl⟩
 obtain ⟨v1, hv1⟩ : ∃ v1, w.alloc (.cells #[.int .i64 e0, .int .i64 e1, .string e2, .slice e3 e4 e5, .slice e6 e7 e8, .slice (some a) n cl] 50) = v1 := ⟨_, rfl⟩
 obtain ⟨gr, hgr⟩ : ∃ gr, v1.heap.size = gr := ⟨_, rfl⟩
 obtain ⟨v2, hv2⟩ : ∃ v2, v1.alloc (.cells #[.int .i64 0, .int .i64 0, .string ⟨#[]⟩, .slice none 0 0, .slice none 0 0] 25) = v2 := ⟨_, rfl⟩
 have n1 : v1.heap[gb]? = some (.cells #[.int .i64 e0, .int .i64 e1, .string e2, .slice e3 e4 e5, .slice e6 e7 e8, .slice (some a) n cl] 50 (0, 0)) := by rw [← hv1, ← hgb]; exact heap_alloc_new w _
 have n2 : v2.heap[gr]? = some (.cells #[.int .i64 0, .int .i64 0, .string ⟨#[]⟩, .slice none 0 0, .slice none 0 0] 25 (0, 0)) := by rw [← hv2, ← hgr]; exact heap_alloc_new v1 _
 have b1 : Below w.heap.size w v1 := by rw [← hv1]; exact (Below.refl _ _).alloc (Nat.le_refl _) _
 have b2 : Below v1.heap.size v1 v2 := by rw [← hv2]; exact (Below.refl _ _).alloc (Nat.le_refl _) _
 have s1 : v1.heap.size = w.heap.size + 1 := by rw [← hv1]; simp
 have HM : Hid (Below w.heap.size w v2 ∧ v2.heap[gb]? = some (.cells #[.int .i64 e0, .int .i64 e1, .string e2, .slice e3 e4 e5, .slice e6 e7 e8, .slice (some a) n cl] 50 (0, 0)) ∧ v2.heap[gr]? = some (.cells #[.int .i64 0, .int .i64 0, .string ⟨#[]⟩, .slice none 0 0, .slice none 0 0] 25 (0, 0)) ∧ w.heap.size ≤ gr ∧ gr < v2.heap.size) := hide ⟨b1.trans (b2.mono b1.size), (b2.block gb (by omega)).trans n1, n2, by omega, (Array.getElem?_eq_some_iff.1 n2).1⟩
 obtain ⟨t0, t1, t2, t3, t4, t5⟩ := block6 (uh HM).2.1
 have hA00 : v2.cell? a = some (.int .i64 p0) := ((uh HM).1.cell (p := a) ha).trans h00
 have hA01 : v2.cell? ⟨a.block, a.off + 1, none⟩ = some (.int .i64 p1) := ((uh HM).1.cell (p := ⟨a.block, a.off + 1, none⟩) ha).trans h01
 have hA02 : v2.cell? ⟨a.block, a.off + 2, none⟩ = some (.string p2) := ((uh HM).1.cell (p := ⟨a.block, a.off + 2, none⟩) ha).trans h02
 have hA03 : v2.cell? ⟨a.block, a.off + 3, none⟩ = some (.slice p3 p4 p5) := ((uh HM).1.cell (p := ⟨a.block, a.off + 3, none⟩) ha).trans h03
 have hA04 : v2.cell? ⟨a.block, a.off + 4, none⟩ = some (.slice p6 p7 p8) := ((uh HM).1.cell (p := ⟨a.block, a.off + 4, none⟩) ha).trans h04
 have hA10 : v2.cell? ⟨a.block, a.off + 5, none⟩ = some (.int .i64 q0) := ((uh HM).1.cell (p := ⟨a.block, a.off + 5, none⟩) ha).trans h10
 have hA11 : v2.cell? ⟨a.block, a.off + 5 + 1, none⟩ = some (.int .i64 q1) := ((uh HM).1.cell (p := ⟨a.block, a.off + 5 + 1, none⟩) ha).trans h11
 have hA12 : v2.cell? ⟨a.block, a.off + 5 + 2, none⟩ = some (.string q2) := ((uh HM).1.cell (p := ⟨a.block, a.off + 5 + 2, none⟩) ha).trans h12
 have hA13 : v2.cell? ⟨a.block, a.off + 5 + 3, none⟩ = some (.slice q3 q4 q5) := ((uh HM).1.cell (p := ⟨a.block, a.off + 5 + 3, none⟩) ha).trans h13
 have hA14 : v2.cell? ⟨a.block, a.off + 5 + 4, none⟩ = some (.slice q6 q7 q8) := ((uh HM).1.cell (p := ⟨a.block, a.off + 5 + 4, none⟩) ha).trans h14
 have hl0 : (0 : Int) < (n : Int) := by omega
 have hl1 : (1 : Int) < (n : Int) := by omega
 have hlt0 : gb < v2.heap.size := (Array.getElem?_eq_some_iff.1 (uh HM).2.1).1
 have hlt1 : a.block < v2.heap.size := Nat.lt_of_lt_of_le ha (uh HM).1.size
 have hkx : p0 = x.kind ∧ p2 = x.s ∧ p4 = x.l.length := by
  obtain ⟨k1, n1, s1, l1, ks1⟩ := x
  obtain ⟨r1, r2, r3, r4, _⟩ := IsP.at hx
  exact ⟨r1, r3, r4⟩
 have hky : q1 = y.n := by
  obtain ⟨k1, n1, s1, l1, ks1⟩ := y
  exact (IsP.at hy).2.1
 obtain ⟨R, hR⟩ : ∃ R, indexV x y.n = R := ⟨_, rfl⟩
 obtain ⟨c, hcc⟩ : ∃ c, cntO x = c := ⟨_, rfl⟩
 rw [hR]
 have CW := hide (within_any e0 e1 e2 e3 e4 e5 e6 e7 e8 a n cl p0 p1 p2 p3 p4 p5 p6 p7 p8 q0 q1 q2 q3 q4 q5 q6 q7 q8 x y B v2 hn (Nat.lt_of_lt_of_le ha (uh HM).1.size) hA00 hA01 hA02 hA03 hA04 hA10 hA11 hA12 hA13 hA14 (IsV.mono ((uh HM).1.mono hBs) hx) (IsV.mono ((uh HM).1.mono hBs) hy) (Nat.le_trans hBs (uh HM).1.size))
 rw [← hky, hcc] at CW
 have HA1 : Hid ((decide (0 ≤ q1) && decide (q1 < c)) = false → R = (vlz, 2)) := hide (fun e => by rw [← hR]; unfold indexV; rw [← hky, hcc, e]; rfl)
 have HAs : Hid (((decide (0 ≤ q1) && decide (q1 < c)) = true → p0 = 3 → R = (nm ((p2.data.toList.getD q1.toNat 0).toNat : Int), 0)) ∧ ((decide (0 ≤ q1) && decide (q1 < c)) = true → ¬ p0 = 3 → ∀ e9, x.l[q1.toNat]? = some e9 → R = (e9, 0))) := hide ⟨fun e1 e2 => by rw [← hR]; unfold indexV; rw [← hky, hcc, if_pos e1, ← hkx.1, if_pos e2, hkx.2.1], fun e1 e2 e9 he => by rw [← hR]; unfold indexV; rw [← hky, hcc, if_pos e1, ← hkx.1, if_neg e2, he]; rfl⟩
 have HCk : Hid ((p0 = 3 → c = (p2.size : Int)) ∧ (¬ p0 = 3 → c = (p4 : Int))) := hide ⟨fun e => by rw [← hcc]; unfold cntO; rw [← hkx.1, if_pos e, hkx.2.1], fun e => by rw [← hcc]; unfold cntO; rw [← hkx.1, if_neg e, hkx.2.2]⟩
 have HLL : Hid (p4 = x.l.length) := hide hkx.2.2
 have HR9 := hide hre
 have HXX := hide hx
 have HBs := hide hBs
 obtain ⟨hin, HIN⟩ : ∃ hb, (decide (0 ≤ q1) && decide (q1 < c)) = hb := ⟨_, rfl⟩
 rw [HIN] at CW HA1 HAs
 have HIN2 : Hid (hin = true → 0 ≤ q1 ∧ q1 < c) := hide (fun e => by rw [e] at HIN; simpa using HIN)
 clear n1 n2 b1 b2 s1 h00 h01 h02 h03 h04 h10 h11 h12 h13 h14 hx hy hBs hkx hky hrx hre hR hcc HIN
 go_enter Tryz.func63, Tryz.ntmps63
 go_wp2_with fail
 refine (uh CW).mono ?_
 rintro e u1 ⟨rfl, d1⟩
 have Xu1 := hide d1
 clear d1 CW
 cases hin with
 | false =>
  have hrz : R = (vlz, 2) := uh HA1 rfl
  have CN : Hid (Calls Tryz.prog 101 #[.int .i64 2] u1 fun e w' => OpPost u1 R e w') := hide (by rw [hrz]; exact trap_op 2 u1)
  clear hrz
  go_wp2_with fail
  refine (uh CN).mono ?_
  rintro e W9 ⟨y0, y1, y2, y3, y4, y5, y6, y7, y8, t, rfl, ⟨ht, q5⟩, d5⟩
  have X5 : Below v2.heap.size v2 W9 := (uh Xu1).trans (d5.mono (uh Xu1).size)
  have ER : Hid (W9.heap[gr]? = some (.cells #[.int .i64 0, .int .i64 0, .string ⟨#[]⟩, .slice none 0 0, .slice none 0 0] 25 (0, 0))) := hide ((X5.block gr (uh HM).2.2.2.2).trans (uh HM).2.2.1)
  obtain ⟨r0z, r1z, r2z, r3z, r4z⟩ := block5 (uh ER)
  obtain ⟨f0, f1, f2, f3, f4⟩ := fr5 (uh ER)
  have HF9 : Hid (IsQ W9 (fun b => v2.heap.size ≤ b ∧ b < W9.heap.size) R.1 (.agg #[.int .i64 y0, .int .i64 y1, .string y2, .slice y3 y4 y5, .slice y6 y7 y8]) ∧ t = R.2 ∧ Below v2.heap.size v2 W9) := hide ⟨q5.weak (fun b hb => ⟨Nat.le_trans (uh Xu1).size hb.1, hb.2⟩), ht, X5⟩
  clear q5 d5 X5 ht CN 
  go_wp2_with fail
  (try simp only [Exit.inBlock, Exit.then])
  refine bodyPost_ret (ret_ct rfl _ _ gr #[.int .i64 y0, .int .i64 y1, .string y2, .slice y3 y4 y5, .slice y6 y7 y8] _ _ rfl (set5P (uh ER) _ _ _ _ _) Tryz.underlying25 rfl size_vl) rfl ?_
  exact op_fin (uh HM).1 (uh HM).2.2.2.1 (uh HM).2.2.2.2 (uh HF9).2.2 (uh HF9).1 (uh HF9).2.1
 | true =>
  have g5 := cell_later (uh Xu1) t5
  have gA00 := cell_later (uh Xu1) hA00
  have gA01 := cell_later (uh Xu1) hA01
  have gA02 := cell_later (uh Xu1) hA02
  have gA03 := cell_later (uh Xu1) hA03
  have gA04 := cell_later (uh Xu1) hA04
  have gA11 := cell_later (uh Xu1) hA11
  have HLT : Hid (gb < u1.heap.size ∧ a.block < u1.heap.size) := hide ⟨Nat.lt_of_lt_of_le hlt0 (uh Xu1).size, Nat.lt_of_lt_of_le hlt1 (uh Xu1).size⟩
  go_upto_region 3 with fail
  have HS0 : Hid (u1.drew.cell? ⟨gb, 5, none⟩ = some (.slice (some a) n cl) ∧ u1.drew.cell? a = some (.int .i64 p0) ∧ u1.drew.cell? ⟨a.block, a.off + 1, none⟩ = some (.int .i64 p1) ∧ u1.drew.cell? ⟨a.block, a.off + 2, none⟩ = some (.string p2) ∧ u1.drew.cell? ⟨a.block, a.off + 3, none⟩ = some (.slice p3 p4 p5) ∧ u1.drew.cell? ⟨a.block, a.off + 4, none⟩ = some (.slice p6 p7 p8) ∧ u1.drew.cell? ⟨a.block, a.off + 5 + 1, none⟩ = some (.int .i64 q1)) := hide ⟨g5, gA00, gA01, gA02, gA03, gA04, gA11⟩
  refine till_begin (S := fun w' => w'.cell? ⟨gb, 5, none⟩ = some (.slice (some a) n cl) ∧ w'.cell? a = some (.int .i64 p0) ∧ w'.cell? ⟨a.block, a.off + 1, none⟩ = some (.int .i64 p1) ∧ w'.cell? ⟨a.block, a.off + 2, none⟩ = some (.string p2) ∧ w'.cell? ⟨a.block, a.off + 3, none⟩ = some (.slice p3 p4 p5) ∧ w'.cell? ⟨a.block, a.off + 4, none⟩ = some (.slice p6 p7 p8) ∧ w'.cell? ⟨a.block, a.off + 5 + 1, none⟩ = some (.int .i64 q1)) 11 (by kernel_rfl) ?_
  refine till_take 0 (v := .pointer (some ⟨gb, 5, none⟩)) (some 12) rfl rfl rfl (by kernel_rfl) (by kernel_rfl) (by kernel_rfl) (by kernel_rfl) (fun _ _ _ h => h) (Or.inl ⟨by rfl, fun u hu => by obtain ⟨b0, b1, b2, b3, b4, b5, b6⟩ := hu; go_simp⟩) (uh HS0) ?_
  try simp only [Act.put, setX]
  refine till_take 1 (v := .slice (some a) n cl) (some 13) rfl rfl rfl (by kernel_rfl) (by kernel_rfl) (by kernel_rfl) (by kernel_rfl) (fun _ _ _ h => h) (Or.inl ⟨by rfl, fun u hu => by obtain ⟨b0, b1, b2, b3, b4, b5, b6⟩ := hu; go_simp⟩) (uh HS0) ?_
  try simp only [Act.put, setX]
  refine till_take 2 (v := .pointer (some a)) (some 14) rfl rfl rfl (by kernel_rfl) (by kernel_rfl) (by kernel_rfl) (by kernel_rfl) (fun _ _ _ h => h) (Or.inl ⟨by rfl, fun u hu => by obtain ⟨b0, b1, b2, b3, b4, b5, b6⟩ := hu; go_simp; intro hz; omega⟩) (uh HS0) ?_
  try simp only [Act.put, setX]
  refine till_take 3 (v := .agg #[.int .i64 p0, .int .i64 p1, .string p2, .slice p3 p4 p5, .slice p6 p7 p8]) (some 15) rfl rfl rfl (by kernel_rfl) (by kernel_rfl) (by kernel_rfl) (by kernel_rfl) (fun _ _ _ h => h) (Or.inl ⟨by rfl, fun u hu => by obtain ⟨b0, b1, b2, b3, b4, b5, b6⟩ := hu; go_simp⟩) (uh HS0) ?_
  try simp only [Act.put, setX]
  refine till_take 4 (v := .pointer (some ⟨gb, 5, none⟩)) (some 16) rfl rfl rfl (by kernel_rfl) (by kernel_rfl) (by kernel_rfl) (by kernel_rfl) (fun _ _ _ h => h) (Or.inl ⟨by rfl, fun u hu => by obtain ⟨b0, b1, b2, b3, b4, b5, b6⟩ := hu; go_simp⟩) (uh HS0) ?_
  try simp only [Act.put, setX]
  refine till_take 5 (v := .slice (some a) n cl) (some 17) rfl rfl rfl (by kernel_rfl) (by kernel_rfl) (by kernel_rfl) (by kernel_rfl) (fun _ _ _ h => h) (Or.inl ⟨by rfl, fun u hu => by obtain ⟨b0, b1, b2, b3, b4, b5, b6⟩ := hu; go_simp⟩) (uh HS0) ?_
  try simp only [Act.put, setX]
  refine till_take 6 (v := .pointer (some ⟨a.block, a.off + 5, none⟩)) (some 18) rfl rfl rfl (by kernel_rfl) (by kernel_rfl) (by kernel_rfl) (by kernel_rfl) (fun _ _ _ h => h) (Or.inl ⟨by rfl, fun u hu => by obtain ⟨b0, b1, b2, b3, b4, b5, b6⟩ := hu; go_simp⟩) (uh HS0) ?_
  try simp only [Act.put, setX]
  refine till_take 7 (v := .pointer (some ⟨a.block, a.off + 5 + 1, none⟩)) (some 19) rfl rfl rfl (by kernel_rfl) (by kernel_rfl) (by kernel_rfl) (by kernel_rfl) (fun _ _ _ h => h) (Or.inl ⟨by rfl, fun u hu => by obtain ⟨b0, b1, b2, b3, b4, b5, b6⟩ := hu; go_simp⟩) (uh HS0) ?_
  try simp only [Act.put, setX]
  refine till_take 8 (v := .int .i64 q1) (some 20) rfl rfl rfl (by kernel_rfl) (by kernel_rfl) (by kernel_rfl) (by kernel_rfl) (fun _ _ _ h => h) (Or.inl ⟨by rfl, fun u hu => by obtain ⟨b0, b1, b2, b3, b4, b5, b6⟩ := hu; go_simp⟩) (uh HS0) ?_
  try simp only [Act.put, setX]
  obtain ⟨W0, hW0⟩ : ∃ W0, u1.drew = W0 := ⟨_, rfl⟩
  have HY0 : Hid (Below u1.heap.size u1 W0) := hide (by rw [← hW0]; exact below_drew_of' (Below.refl _ _))
  have hs0 : u1.heap.size = W0.heap.size := by rw [← hW0]; rfl
  have HSZ0 := hide hs0
  clear hs0
  try rw [hW0]
  rw [hW0] at HS0
  clear hW0
  refine till_one 9 (by kernel_rfl) rfl (fun K hK => ?_)
  go_simp
  obtain ⟨W1, hW1⟩ : ∃ W1, W0.alloc (.cells #[.int .i64 0, .int .i64 0, .string ⟨#[]⟩, .slice none 0 0, .slice none 0 0] 25) = W1 := ⟨_, rfl⟩
  have X0 : Below W0.heap.size W0 W1 := by rw [← hW1]; exact (Below.refl _ _).alloc (Nat.le_refl _) _
  have X1 : Below u1.heap.size u1 W1 := (uh HY0).trans (X0.mono (uh HY0).size)
  obtain ⟨b4, hb4⟩ : ∃ b4, W0.heap.size = b4 := ⟨_, rfl⟩
  have N1 : W1.heap[b4]? = some (.cells #[.int .i64 0, .int .i64 0, .string ⟨#[]⟩, .slice none 0 0, .slice none 0 0] 25 (0, 0)) := by rw [← hW1, ← hb4]; exact heap_alloc_new W0 _
  try rw [hW1]
  try rw [hb4]
  have HS1 : Hid (W1.cell? ⟨gb, 5, none⟩ = some (.slice (some a) n cl) ∧ W1.cell? a = some (.int .i64 p0) ∧ W1.cell? ⟨a.block, a.off + 1, none⟩ = some (.int .i64 p1) ∧ W1.cell? ⟨a.block, a.off + 2, none⟩ = some (.string p2) ∧ W1.cell? ⟨a.block, a.off + 3, none⟩ = some (.slice p3 p4 p5) ∧ W1.cell? ⟨a.block, a.off + 4, none⟩ = some (.slice p6 p7 p8) ∧ W1.cell? ⟨a.block, a.off + 5 + 1, none⟩ = some (.int .i64 q1)) := hide ⟨cell_later X0 ((uh HS0).1), cell_later X0 ((uh HS0).2.1), cell_later X0 ((uh HS0).2.2.1), cell_later X0 ((uh HS0).2.2.2.1), cell_later X0 ((uh HS0).2.2.2.2.1), cell_later X0 ((uh HS0).2.2.2.2.2.1), cell_later X0 ((uh HS0).2.2.2.2.2.2)⟩
  have K1 : Hid (Below u1.heap.size u1 W1 ∧ W1.heap[b4]? = some (.cells #[.int .i64 0, .int .i64 0, .string ⟨#[]⟩, .slice none 0 0, .slice none 0 0] 25 (0, 0)) ∧ u1.heap.size ≤ b4) := hide ⟨X1, N1, by rw [← hb4, ← uh HSZ0]; exact Nat.le_refl _⟩
  refine hK.out _ _ (Or.inr (uh HS1)) ?_
  clear hK K X0 X1 N1 hW1 hb4 HS0 HY0
  try simp only [Act.put, setX]
  obtain ⟨k1, k2, k3⟩ := uh K1
  obtain ⟨c0, c1, c2, c3, c4⟩ := block5 k2
  obtain ⟨f0, f1, f2, f3, f4⟩ := fr5 k2
  obtain ⟨W2, hW2⟩ : ∃ W2, (((((W1.setCell ⟨b4, 0, none⟩ (.int .i64 p0)).setCell ⟨b4, 1, none⟩ (.int .i64 p1)).setCell ⟨b4, 2, none⟩ (.string p2)).setCell ⟨b4, 3, none⟩ (.slice p3 p4 p5)).setCell ⟨b4, 4, none⟩ (.slice p6 p7 p8)) = W2 := ⟨_, rfl⟩
  have M2 : W2.heap[b4]? = some (.cells #[.int .i64 p0, .int .i64 p1, .string p2, .slice p3 p4 p5, .slice p6 p7 p8] 25 (0, 0)) := by rw [← hW2]; exact set5P k2 _ _ _ _ _
  have Y2 : Below u1.heap.size u1 W2 := by rw [← hW2]; exact set5P_below k1 k3 _ _ _ _ _
  have HS2 : Hid (W2.cell? ⟨gb, 5, none⟩ = some (.slice (some a) n cl) ∧ W2.cell? a = some (.int .i64 p0) ∧ W2.cell? ⟨a.block, a.off + 1, none⟩ = some (.int .i64 p1) ∧ W2.cell? ⟨a.block, a.off + 2, none⟩ = some (.string p2) ∧ W2.cell? ⟨a.block, a.off + 3, none⟩ = some (.slice p3 p4 p5) ∧ W2.cell? ⟨a.block, a.off + 4, none⟩ = some (.slice p6 p7 p8) ∧ W2.cell? ⟨a.block, a.off + 5 + 1, none⟩ = some (.int .i64 q1)) := hide ⟨(Y2.cell (p := ⟨gb, 5, none⟩) (uh HLT).1).trans g5, (Y2.cell (p := a) (uh HLT).2).trans gA00, (Y2.cell (p := ⟨a.block, a.off + 1, none⟩) (uh HLT).2).trans gA01, (Y2.cell (p := ⟨a.block, a.off + 2, none⟩) (uh HLT).2).trans gA02, (Y2.cell (p := ⟨a.block, a.off + 3, none⟩) (uh HLT).2).trans gA03, (Y2.cell (p := ⟨a.block, a.off + 4, none⟩) (uh HLT).2).trans gA04, (Y2.cell (p := ⟨a.block, a.off + 5 + 1, none⟩) (uh HLT).2).trans gA11⟩
  have K2 : Hid (Below v2.heap.size v2 W2 ∧ W2.heap[b4]? = some (.cells #[.int .i64 p0, .int .i64 p1, .string p2, .slice p3 p4 p5, .slice p6 p7 p8] 25 (0, 0))) := hide ⟨(uh Xu1).trans (Y2.mono (uh Xu1).size), M2⟩
  clear M2 Y2 k1 k2 k3 K1
  refine till_one 10 (by kernel_rfl) rfl (fun K hK => ?_)
  go_simp
  try rw [hW2]
  refine hK.out _ _ (Or.inr (uh HS2)) ?_
  clear hK K HS1 c0 c1 c2 c3 c4 f0 f1 f2 f3 f4 hW2
  try simp only [Act.put, setX]
  refine till_one 11 (by kernel_rfl) rfl (fun K hK => ?_)
  go_simp
  refine hK.out _ _ (Or.inl (by first | rfl | trivial)) ?_
  clear hK K HS2
  try simp only [Act.put, setX]
  refine till_done (by kernel_rfl) ?_ _
  obtain ⟨z0, z1, z2, z3, z4⟩ := block5 (uh K2).2
  have B2 := (uh HM).1.trans ((uh K2).1.mono (uh HM).1.size)
  have HV2 : Hid (IsV W2 B x (.agg #[.int .i64 p0, .int .i64 p1, .string p2, .slice p3 p4 p5, .slice p6 p7 p8])) := hide (IsV.mono (B2.mono (uh HBs)) (uh HXX))
  have HB2 : Hid (B ≤ W2.heap.size) := hide (Nat.le_trans (uh HBs) B2.size)
  clear B2 g5 gA00 gA01 gA02 gA03 gA04 gA11
  obtain ⟨i, rfl⟩ : ∃ i : Nat, q1 = (i : Int) := ⟨q1.toNat, by have := (uh HIN2 (by trivial)).1; omega⟩
  have hic : (i : Int) < c := (uh HIN2 (by trivial)).2
  have HA3 : Hid (p0 = 3 → R = (nm ((p2.data.toList.getD i 0).toNat : Int), 0)) := hide (fun e => by have h := (uh HAs).1 (by trivial) e; simpa using h)
  have HA4 : Hid (¬ p0 = 3 → ∀ e9, x.l[i]? = some e9 → R = (e9, 0)) := hide (fun e e9 he => (uh HAs).2 (by trivial) e e9 (by simpa using he))
  by_cases hk : p0 = 3
  ·subst hk
   have hj : i < p2.size := by have := (uh HCk).1 rfl; omega
   have hrz : R = (nm ((p2.data.toList.getD i 0).toNat : Int), 0) := uh HA3 rfl
   have hby : ((p2.data.toList.getD i 0).toNat : Int) ≤ 255 := by have := (p2.data.toList.getD i 0).toNat_lt; omega
   have hj2 : (i : Int) < (p2.size : Int) := by omega
   have hz : ∀ (h : i < p2.size), wrap64 ((p2[i]'h).toNat : Int) = ((p2.data.toList.getD i 0).toNat : Int) := fun h => by
    have e1 : p2.data.toList.getD i 0 = p2[i]'h := by rw [List.getD_eq_getElem?_getD, List.getElem?_eq_getElem (by simpa using h)]; rfl
    rw [e1] at hby ⊢
    simp only [wrap64]
    omega
   obtain ⟨bz, hbz⟩ : ∃ bz, ((p2.data.toList.getD i 0).toNat : Int) = bz := ⟨_, rfl⟩
   rw [hbz] at hrz hby
   have hb0 : 0 ≤ bz := by rw [← hbz]; omega
   have CN : Hid (Calls Tryz.prog 98 #[.int .i64 bz] W2 fun e w' => OpPost W2 R e w') := hide (by rw [hrz]; exact number_op bz W2 (by omega))
   have HZ := hide hz
   clear hz hrz
   go_wp2_with fail
   rw [uh HZ hj, hbz]
   refine (uh CN).mono ?_
   rintro e W9 ⟨y0, y1, y2, y3, y4, y5, y6, y7, y8, t, rfl, ⟨ht, q5⟩, d5⟩
   have X5 : Below v2.heap.size v2 W9 := (uh K2).1.trans (d5.mono (uh K2).1.size)
   have ER : Hid (W9.heap[gr]? = some (.cells #[.int .i64 0, .int .i64 0, .string ⟨#[]⟩, .slice none 0 0, .slice none 0 0] 25 (0, 0))) := hide ((X5.block gr (uh HM).2.2.2.2).trans (uh HM).2.2.1)
   obtain ⟨r0z, r1z, r2z, r3z, r4z⟩ := block5 (uh ER)
   obtain ⟨f0, f1, f2, f3, f4⟩ := fr5 (uh ER)
   have HF9 : Hid (IsQ W9 (fun b => v2.heap.size ≤ b ∧ b < W9.heap.size) R.1 (.agg #[.int .i64 y0, .int .i64 y1, .string y2, .slice y3 y4 y5, .slice y6 y7 y8]) ∧ t = R.2 ∧ Below v2.heap.size v2 W9) := hide ⟨q5.weak (fun b hb => ⟨Nat.le_trans (uh K2).1.size hb.1, hb.2⟩), ht, X5⟩
   clear q5 d5 X5 ht CN z0 z1 z2 z3 z4 HZ
   go_wp2_with fail
   (try simp only [Exit.inBlock, Exit.then])
   refine bodyPost_ret (ret_ct rfl _ _ gr #[.int .i64 y0, .int .i64 y1, .string y2, .slice y3 y4 y5, .slice y6 y7 y8] _ _ rfl (set5P (uh ER) _ _ _ _ _) Tryz.underlying25 rfl size_vl) rfl ?_
   exact op_fin (uh HM).1 (uh HM).2.2.2.1 (uh HM).2.2.2.2 (uh HF9).2.2 (uh HF9).1 (uh HF9).2.1
  ·have hk3 : (p0 == 3) = false := beq_eq_false_iff_ne.2 hk
   have hj : i < p4 := by have := (uh HCk).2 hk; omega
   have hj2 : (i : Int) < (p4 : Int) := by omega
   obtain ⟨e9, he9⟩ : ∃ e9, x.l[i]? = some e9 := ⟨_, List.getElem?_eq_getElem (by have := uh HLL; omega)⟩
   have HRZ : Hid (R = (e9, 0)) := hide (uh HA4 hk e9 he9)
   have HEL : Hid (∃ (a9 : Addr) (g0 g1 : Int) (g2 : ByteArray) (g3 : Option Addr) (g4 g5 : Nat) (g6 : Option Addr) (g7 g8 : Nat), p3 = some a9 ∧ (W2.cell? (a9.add (i * 5)) = some (.int .i64 g0) ∧ W2.cell? ⟨(a9.add (i * 5)).block, (a9.add (i * 5)).off + 1, none⟩ = some (.int .i64 g1) ∧ W2.cell? ⟨(a9.add (i * 5)).block, (a9.add (i * 5)).off + 2, none⟩ = some (.string g2) ∧ W2.cell? ⟨(a9.add (i * 5)).block, (a9.add (i * 5)).off + 3, none⟩ = some (.slice g3 g4 g5) ∧ W2.cell? ⟨(a9.add (i * 5)).block, (a9.add (i * 5)).off + 4, none⟩ = some (.slice g6 g7 g8)) ∧ IsV W2 B e9 (.agg #[.int .i64 g0, .int .i64 g1, .string g2, .slice g3 g4 g5, .slice g6 g7 g8])) := hide (elem_of (uh HV2) i e9 he9)
   obtain ⟨a9, g0, g1, g2, g3, g4, g5, g6, g7, g8, rfl, ⟨j0, j1, j2, j3, j4⟩, hv9⟩ := uh HEL
   have CN : Hid (Calls Tryz.prog 107 #[.agg #[.int .i64 g0, .int .i64 g1, .string g2, .slice g3 g4 g5, .slice g6 g7 g8]] W2 fun e w' => ∃ x', e = .returned x' ∧ Below W2.heap.size W2 w' ∧ IsQ w' (fun b => W2.heap.size ≤ b ∧ b < w'.heap.size) e9 x') := hide ((copy_any e9 _ B W2 hv9 (uh HB2)).mono (fun e w' h => by obtain ⟨x', h1, h2, h3, _⟩ := h; exact ⟨x', h1, h2, h3 (uh HR9 e9 (List.mem_of_getElem? he9))⟩))
   clear hv9 HEL he9
   go_wp2_with fail
   refine (uh CN).mono ?_
   rintro e W9 ⟨x', rfl, d5, q5⟩
   obtain ⟨y0, y1, y2, y3, y4, y5, y6, y7, y8, rfl⟩ := shape9P q5.1
   have X5 : Below v2.heap.size v2 W9 := (uh K2).1.trans (d5.mono (uh K2).1.size)
   have ER : Hid (W9.heap[gr]? = some (.cells #[.int .i64 0, .int .i64 0, .string ⟨#[]⟩, .slice none 0 0, .slice none 0 0] 25 (0, 0))) := hide ((X5.block gr (uh HM).2.2.2.2).trans (uh HM).2.2.1)
   obtain ⟨r0z, r1z, r2z, r3z, r4z⟩ := block5 (uh ER)
   obtain ⟨f0, f1, f2, f3, f4⟩ := fr5 (uh ER)
   have HF9 : Hid (IsQ W9 (fun b => v2.heap.size ≤ b ∧ b < W9.heap.size) R.1 (.agg #[.int .i64 y0, .int .i64 y1, .string y2, .slice y3 y4 y5, .slice y6 y7 y8]) ∧ (0 : Int) = R.2 ∧ Below v2.heap.size v2 W9) := hide ⟨by rw [uh HRZ]; exact q5.weak (fun b hb => ⟨Nat.le_trans (uh K2).1.size hb.1, hb.2⟩), by rw [uh HRZ], X5⟩
   clear q5 d5 X5 CN z0 z1 z2 z3 z4 j0 j1 j2 j3 j4
   go_wp2_with fail
   (try simp only [Exit.inBlock, Exit.then])
   refine bodyPost_ret (ret_ct rfl _ _ gr #[.int .i64 y0, .int .i64 y1, .string y2, .slice y3 y4 y5, .slice y6 y7 y8] _ _ rfl (set5P (uh ER) _ _ _ _ _) Tryz.underlying25 rfl size_vl) rfl ?_
   exact op_fin (uh HM).1 (uh HM).2.2.2.1 (uh HM).2.2.2.2 (uh HF9).2.2 (uh HF9).1 (uh HF9).2.1
end Go.Proofs.YtgkmdjmigehmeaaGreatDoor

/-
  Whole numbers that go round; no conditions.
-/
import Derived.Test.YtgkmdjmigehmeaaGreatDoorR34
import Derived.Test.YtgkmdjmigehmeaaGreatDoorR37
import Derived.Test.YtgkmdjmigehmeaaGreatDoorR35
import Derived.Test.YtgkmdjmigehmeaaGreatDoorR28
import Derived.Test.YtgkmdjmigehmeaaGreatDoorR11
import Derived.Test.YtgkmdjmigehmeaaGreatDoorR02
namespace Go.Proofs.YtgkmdjmigehmeaaGreatDoor
set_option linter.unusedVariables false
set_option linter.unusedSimpArgs false
set_option maxRecDepth 100000
set_option maxHeartbeats 16000000
open Go.RowKit
theorem wrap_is (x : Int) : IntKind.wrap .i64 x = wrap64 x := by
 simp only [wrap64, IntKind.wrap_i64]
theorem tmod_in (a b : Int) (ha : -9223372036854775808 ≤ a ∧ a ≤ 9223372036854775807) : -9223372036854775808 ≤ a.tmod b ∧ a.tmod b ≤ 9223372036854775807 := by
 have h := Int.natAbs_tmod a b
 have h2 : (a.tmod b).natAbs ≤ a.natAbs := by rw [h]; exact Nat.mod_le _ _
 by_cases hs : 0 ≤ a
 ·have := Int.tmod_nonneg b hs
  omega
 ·have h3 : (a.tmod b) = -((-a).tmod b) := by rw [Int.neg_tmod, Int.neg_neg]
  have h4 := Int.tmod_nonneg b (show 0 ≤ -a by omega)
  omega
open Go.RowKit Go.Shelf
theorem sub_op (e0 e1 : Int) (e2 : ByteArray) (e3 : Option Addr) (e4 e5 : Nat) (e6 : Option Addr) (e7 e8 : Nat) (a : Addr) (n cl : Nat) (p0 p1 : Int) (p2 : ByteArray) (p3 : Option Addr) (p4 p5 : Nat) (p6 : Option Addr) (p7 p8 : Nat) (q0 q1 : Int) (q2 : ByteArray) (q3 : Option Addr) (q4 q5 : Nat) (q6 : Option Addr) (q7 q8 : Nat) (x y : Vl) (B : Nat) (w : World) (hn : 2 ≤ n) (ha : a.block < w.heap.size) (h00 : w.cell? a = some (.int .i64 p0)) (h01 : w.cell? ⟨a.block, a.off + 1, none⟩ = some (.int .i64 p1)) (h02 : w.cell? ⟨a.block, a.off + 2, none⟩ = some (.string p2)) (h03 : w.cell? ⟨a.block, a.off + 3, none⟩ = some (.slice p3 p4 p5)) (h04 : w.cell? ⟨a.block, a.off + 4, none⟩ = some (.slice p6 p7 p8)) (h10 : w.cell? ⟨a.block, a.off + 5, none⟩ = some (.int .i64 q0)) (h11 : w.cell? ⟨a.block, a.off + 5 + 1, none⟩ = some (.int .i64 q1)) (h12 : w.cell? ⟨a.block, a.off + 5 + 2, none⟩ = some (.string q2)) (h13 : w.cell? ⟨a.block, a.off + 5 + 3, none⟩ = some (.slice q3 q4 q5)) (h14 : w.cell? ⟨a.block, a.off + 5 + 4, none⟩ = some (.slice q6 q7 q8)) (hx : IsV w B x (.agg #[.int .i64 p0, .int .i64 p1, .string p2, .slice p3 p4 p5, .slice p6 p7 p8])) (hy : IsV w B y (.agg #[.int .i64 q0, .int .i64 q1, .string q2, .slice q3 q4 q5, .slice q6 q7 q8])) (hBs : B ≤ w.heap.size) :
  Calls Tryz.prog 49 #[.agg #[.int .i64 e0, .int .i64 e1, .string e2, .slice e3 e4 e5, .slice e6 e7 e8, .slice (some a) n cl]] w fun e w' => OpPost w (nm (IntKind.wrap .i64 (x.n - y.n)), 0) e w' := by
 have hkx : p1 = x.n := by
  obtain ⟨k1, n1, s1, l1, ks1⟩ := x
  exact (IsP.at hx).2.1
 have hky : q1 = y.n := by
  obtain ⟨k1, n1, s1, l1, ks1⟩ := y
  exact (IsP.at hy).2.1
 rw [← hkx, ← hky]
 refine (sub_num e0 e1 e2 e3 e4 e5 e6 e7 e8 a n cl p1 q1 w hn ha h01 h11).mono ?_
 rintro e w' ⟨rfl, b⟩
 exact ⟨_, _, _, _, _, _, _, _, _, _, rfl, ⟨rfl, leaf_isQ _ _ 2 (IntKind.wrap .i64 (p1 - q1)) _ (by omega) (by rw [wrap_is]; exact wr64 _) (by rw [e0sP]; omega)⟩, b⟩
theorem mul_op (e0 e1 : Int) (e2 : ByteArray) (e3 : Option Addr) (e4 e5 : Nat) (e6 : Option Addr) (e7 e8 : Nat) (a : Addr) (n cl : Nat) (p0 p1 : Int) (p2 : ByteArray) (p3 : Option Addr) (p4 p5 : Nat) (p6 : Option Addr) (p7 p8 : Nat) (q0 q1 : Int) (q2 : ByteArray) (q3 : Option Addr) (q4 q5 : Nat) (q6 : Option Addr) (q7 q8 : Nat) (x y : Vl) (B : Nat) (w : World) (hn : 2 ≤ n) (ha : a.block < w.heap.size) (h00 : w.cell? a = some (.int .i64 p0)) (h01 : w.cell? ⟨a.block, a.off + 1, none⟩ = some (.int .i64 p1)) (h02 : w.cell? ⟨a.block, a.off + 2, none⟩ = some (.string p2)) (h03 : w.cell? ⟨a.block, a.off + 3, none⟩ = some (.slice p3 p4 p5)) (h04 : w.cell? ⟨a.block, a.off + 4, none⟩ = some (.slice p6 p7 p8)) (h10 : w.cell? ⟨a.block, a.off + 5, none⟩ = some (.int .i64 q0)) (h11 : w.cell? ⟨a.block, a.off + 5 + 1, none⟩ = some (.int .i64 q1)) (h12 : w.cell? ⟨a.block, a.off + 5 + 2, none⟩ = some (.string q2)) (h13 : w.cell? ⟨a.block, a.off + 5 + 3, none⟩ = some (.slice q3 q4 q5)) (h14 : w.cell? ⟨a.block, a.off + 5 + 4, none⟩ = some (.slice q6 q7 q8)) (hx : IsV w B x (.agg #[.int .i64 p0, .int .i64 p1, .string p2, .slice p3 p4 p5, .slice p6 p7 p8])) (hy : IsV w B y (.agg #[.int .i64 q0, .int .i64 q1, .string q2, .slice q3 q4 q5, .slice q6 q7 q8])) (hBs : B ≤ w.heap.size) :
  Calls Tryz.prog 50 #[.agg #[.int .i64 e0, .int .i64 e1, .string e2, .slice e3 e4 e5, .slice e6 e7 e8, .slice (some a) n cl]] w fun e w' => OpPost w (nm (IntKind.wrap .i64 (x.n * y.n)), 0) e w' := by
 have hkx : p1 = x.n := by
  obtain ⟨k1, n1, s1, l1, ks1⟩ := x
  exact (IsP.at hx).2.1
 have hky : q1 = y.n := by
  obtain ⟨k1, n1, s1, l1, ks1⟩ := y
  exact (IsP.at hy).2.1
 rw [← hkx, ← hky]
 refine (mul_num e0 e1 e2 e3 e4 e5 e6 e7 e8 a n cl p1 q1 w hn ha h01 h11).mono ?_
 rintro e w' ⟨rfl, b⟩
 exact ⟨_, _, _, _, _, _, _, _, _, _, rfl, ⟨rfl, leaf_isQ _ _ 2 (IntKind.wrap .i64 (p1 * q1)) _ (by omega) (by rw [wrap_is]; exact wr64 _) (by rw [e0sP]; omega)⟩, b⟩
def divV (p q : Int) : Vl × Int := if q = 0 then (vlz, 1) else (nm (IntKind.wrap .i64 (p.tdiv q)), 0)
theorem div_op (e0 e1 : Int) (e2 : ByteArray) (e3 : Option Addr) (e4 e5 : Nat) (e6 : Option Addr) (e7 e8 : Nat) (a : Addr) (n cl : Nat) (p0 p1 : Int) (p2 : ByteArray) (p3 : Option Addr) (p4 p5 : Nat) (p6 : Option Addr) (p7 p8 : Nat) (q0 q1 : Int) (q2 : ByteArray) (q3 : Option Addr) (q4 q5 : Nat) (q6 : Option Addr) (q7 q8 : Nat) (x y : Vl) (B : Nat) (w : World) (hn : 2 ≤ n) (ha : a.block < w.heap.size) (h00 : w.cell? a = some (.int .i64 p0)) (h01 : w.cell? ⟨a.block, a.off + 1, none⟩ = some (.int .i64 p1)) (h02 : w.cell? ⟨a.block, a.off + 2, none⟩ = some (.string p2)) (h03 : w.cell? ⟨a.block, a.off + 3, none⟩ = some (.slice p3 p4 p5)) (h04 : w.cell? ⟨a.block, a.off + 4, none⟩ = some (.slice p6 p7 p8)) (h10 : w.cell? ⟨a.block, a.off + 5, none⟩ = some (.int .i64 q0)) (h11 : w.cell? ⟨a.block, a.off + 5 + 1, none⟩ = some (.int .i64 q1)) (h12 : w.cell? ⟨a.block, a.off + 5 + 2, none⟩ = some (.string q2)) (h13 : w.cell? ⟨a.block, a.off + 5 + 3, none⟩ = some (.slice q3 q4 q5)) (h14 : w.cell? ⟨a.block, a.off + 5 + 4, none⟩ = some (.slice q6 q7 q8)) (hx : IsV w B x (.agg #[.int .i64 p0, .int .i64 p1, .string p2, .slice p3 p4 p5, .slice p6 p7 p8])) (hy : IsV w B y (.agg #[.int .i64 q0, .int .i64 q1, .string q2, .slice q3 q4 q5, .slice q6 q7 q8])) (hBs : B ≤ w.heap.size) :
  Calls Tryz.prog 51 #[.agg #[.int .i64 e0, .int .i64 e1, .string e2, .slice e3 e4 e5, .slice e6 e7 e8, .slice (some a) n cl]] w fun e w' => OpPost w (divV x.n y.n) e w' := by
 have hkx : p1 = x.n := by
  obtain ⟨k1, n1, s1, l1, ks1⟩ := x
  exact (IsP.at hx).2.1
 have hky : q1 = y.n := by
  obtain ⟨k1, n1, s1, l1, ks1⟩ := y
  exact (IsP.at hy).2.1
 have hp : -9223372036854775808 ≤ p1 ∧ p1 ≤ 9223372036854775807 := by
  obtain ⟨k1, n1, s1, l1, ks1⟩ := x
  obtain ⟨_, r2, _, _, _, V, hf, _⟩ := IsP.at hx
  rw [r2]
  exact hf.bn
 rw [← hkx, ← hky]
 unfold divV
 by_cases hq : q1 = 0
 ·rw [if_pos hq]
  refine (div_zero e0 e1 e2 e3 e4 e5 e6 e7 e8 a n cl p1 q1 w hn ha h01 h11 hq).mono ?_
  rintro e w' ⟨rfl, b⟩
  exact ⟨_, _, _, _, _, _, _, _, _, _, rfl, ⟨rfl, leaf_isQ _ _ 0 0 _ (by omega) (by omega) (by rw [e0sP]; omega)⟩, b⟩
 ·rw [if_neg hq]
  refine (div_num e0 e1 e2 e3 e4 e5 e6 e7 e8 a n cl p1 q1 w hn ha h01 h11 hq).mono ?_
  rintro e w' ⟨rfl, b⟩
  exact ⟨_, _, _, _, _, _, _, _, _, _, rfl, ⟨rfl, leaf_isQ _ _ 2 _ _ (by omega) (by rw [wrap_is]; exact wr64 _) (by rw [e0sP]; omega)⟩, b⟩
def remV (p q : Int) : Vl × Int := if q = 0 then (vlz, 1) else (nm (p.tmod q), 0)
theorem rem_op (e0 e1 : Int) (e2 : ByteArray) (e3 : Option Addr) (e4 e5 : Nat) (e6 : Option Addr) (e7 e8 : Nat) (a : Addr) (n cl : Nat) (p0 p1 : Int) (p2 : ByteArray) (p3 : Option Addr) (p4 p5 : Nat) (p6 : Option Addr) (p7 p8 : Nat) (q0 q1 : Int) (q2 : ByteArray) (q3 : Option Addr) (q4 q5 : Nat) (q6 : Option Addr) (q7 q8 : Nat) (x y : Vl) (B : Nat) (w : World) (hn : 2 ≤ n) (ha : a.block < w.heap.size) (h00 : w.cell? a = some (.int .i64 p0)) (h01 : w.cell? ⟨a.block, a.off + 1, none⟩ = some (.int .i64 p1)) (h02 : w.cell? ⟨a.block, a.off + 2, none⟩ = some (.string p2)) (h03 : w.cell? ⟨a.block, a.off + 3, none⟩ = some (.slice p3 p4 p5)) (h04 : w.cell? ⟨a.block, a.off + 4, none⟩ = some (.slice p6 p7 p8)) (h10 : w.cell? ⟨a.block, a.off + 5, none⟩ = some (.int .i64 q0)) (h11 : w.cell? ⟨a.block, a.off + 5 + 1, none⟩ = some (.int .i64 q1)) (h12 : w.cell? ⟨a.block, a.off + 5 + 2, none⟩ = some (.string q2)) (h13 : w.cell? ⟨a.block, a.off + 5 + 3, none⟩ = some (.slice q3 q4 q5)) (h14 : w.cell? ⟨a.block, a.off + 5 + 4, none⟩ = some (.slice q6 q7 q8)) (hx : IsV w B x (.agg #[.int .i64 p0, .int .i64 p1, .string p2, .slice p3 p4 p5, .slice p6 p7 p8])) (hy : IsV w B y (.agg #[.int .i64 q0, .int .i64 q1, .string q2, .slice q3 q4 q5, .slice q6 q7 q8])) (hBs : B ≤ w.heap.size) :
  Calls Tryz.prog 52 #[.agg #[.int .i64 e0, .int .i64 e1, .string e2, .slice e3 e4 e5, .slice e6 e7 e8, .slice (some a) n cl]] w fun e w' => OpPost w (remV x.n y.n) e w' := by
 have hkx : p1 = x.n := by
  obtain ⟨k1, n1, s1, l1, ks1⟩ := x
  exact (IsP.at hx).2.1
 have hky : q1 = y.n := by
  obtain ⟨k1, n1, s1, l1, ks1⟩ := y
  exact (IsP.at hy).2.1
 have hp : -9223372036854775808 ≤ p1 ∧ p1 ≤ 9223372036854775807 := by
  obtain ⟨k1, n1, s1, l1, ks1⟩ := x
  obtain ⟨_, r2, _, _, _, V, hf, _⟩ := IsP.at hx
  rw [r2]
  exact hf.bn
 rw [← hkx, ← hky]
 unfold remV
 by_cases hq : q1 = 0
 ·rw [if_pos hq]
  refine (rem_zero e0 e1 e2 e3 e4 e5 e6 e7 e8 a n cl p1 q1 w hn ha h01 h11 hq).mono ?_
  rintro e w' ⟨rfl, b⟩
  exact ⟨_, _, _, _, _, _, _, _, _, _, rfl, ⟨rfl, leaf_isQ _ _ 0 0 _ (by omega) (by omega) (by rw [e0sP]; omega)⟩, b⟩
 ·rw [if_neg hq]
  refine (rem_num e0 e1 e2 e3 e4 e5 e6 e7 e8 a n cl p1 q1 w hn ha h01 h11 hq).mono ?_
  rintro e w' ⟨rfl, b⟩
  exact ⟨_, _, _, _, _, _, _, _, _, _, rfl, ⟨rfl, leaf_isQ _ _ 2 _ _ (by omega) (tmod_in _ _ hp) (by rw [e0sP]; omega)⟩, b⟩
theorem neg_op (e0 e1 : Int) (e2 : ByteArray) (e3 : Option Addr) (e4 e5 : Nat) (e6 : Option Addr) (e7 e8 : Nat) (a : Addr) (n cl : Nat) (p0 p1 : Int) (p2 : ByteArray) (p3 : Option Addr) (p4 p5 : Nat) (p6 : Option Addr) (p7 p8 : Nat) (x : Vl) (B : Nat) (w : World) (hn : 1 ≤ n) (ha : a.block < w.heap.size) (h00 : w.cell? a = some (.int .i64 p0)) (h01 : w.cell? ⟨a.block, a.off + 1, none⟩ = some (.int .i64 p1)) (h02 : w.cell? ⟨a.block, a.off + 2, none⟩ = some (.string p2)) (h03 : w.cell? ⟨a.block, a.off + 3, none⟩ = some (.slice p3 p4 p5)) (h04 : w.cell? ⟨a.block, a.off + 4, none⟩ = some (.slice p6 p7 p8)) (hx : IsV w B x (.agg #[.int .i64 p0, .int .i64 p1, .string p2, .slice p3 p4 p5, .slice p6 p7 p8])) (hBs : B ≤ w.heap.size) :
  Calls Tryz.prog 53 #[.agg #[.int .i64 e0, .int .i64 e1, .string e2, .slice e3 e4 e5, .slice e6 e7 e8, .slice (some a) n cl]] w fun e w' => OpPost w (nm (wrap64 (-x.n)), 0) e w' := by
 have hkx : p1 = x.n := by
  obtain ⟨k1, n1, s1, l1, ks1⟩ := x
  exact (IsP.at hx).2.1
 rw [← hkx]
 refine (neg_num e0 e1 e2 e3 e4 e5 e6 e7 e8 a n cl p1 w hn ha h01).mono ?_
 rintro e w' ⟨rfl, b⟩
 exact ⟨_, _, _, _, _, _, _, _, _, _, rfl, ⟨rfl, leaf_isQ _ _ 2 (wrap64 (-p1)) _ (by omega) (wr64 _) (by rw [e0sP]; omega)⟩, b⟩
theorem eq_op (e0 e1 : Int) (e2 : ByteArray) (e3 : Option Addr) (e4 e5 : Nat) (e6 : Option Addr) (e7 e8 : Nat) (a : Addr) (n cl : Nat) (p0 p1 : Int) (p2 : ByteArray) (p3 : Option Addr) (p4 p5 : Nat) (p6 : Option Addr) (p7 p8 : Nat) (q0 q1 : Int) (q2 : ByteArray) (q3 : Option Addr) (q4 q5 : Nat) (q6 : Option Addr) (q7 q8 : Nat) (x y : Vl) (B : Nat) (w : World) (hn : 2 ≤ n) (ha : a.block < w.heap.size) (h00 : w.cell? a = some (.int .i64 p0)) (h01 : w.cell? ⟨a.block, a.off + 1, none⟩ = some (.int .i64 p1)) (h02 : w.cell? ⟨a.block, a.off + 2, none⟩ = some (.string p2)) (h03 : w.cell? ⟨a.block, a.off + 3, none⟩ = some (.slice p3 p4 p5)) (h04 : w.cell? ⟨a.block, a.off + 4, none⟩ = some (.slice p6 p7 p8)) (h10 : w.cell? ⟨a.block, a.off + 5, none⟩ = some (.int .i64 q0)) (h11 : w.cell? ⟨a.block, a.off + 5 + 1, none⟩ = some (.int .i64 q1)) (h12 : w.cell? ⟨a.block, a.off + 5 + 2, none⟩ = some (.string q2)) (h13 : w.cell? ⟨a.block, a.off + 5 + 3, none⟩ = some (.slice q3 q4 q5)) (h14 : w.cell? ⟨a.block, a.off + 5 + 4, none⟩ = some (.slice q6 q7 q8)) (hx : IsV w B x (.agg #[.int .i64 p0, .int .i64 p1, .string p2, .slice p3 p4 p5, .slice p6 p7 p8])) (hy : IsV w B y (.agg #[.int .i64 q0, .int .i64 q1, .string q2, .slice q3 q4 q5, .slice q6 q7 q8])) (hBs : B ≤ w.heap.size) :
  Calls Tryz.prog 55 #[.agg #[.int .i64 e0, .int .i64 e1, .string e2, .slice e3 e4 e5, .slice e6 e7 e8, .slice (some a) n cl]] w fun e w' => OpPost w (tv (tst 17 (ord0 x y)), 0) e w' := by
 refine (eq_any e0 e1 e2 e3 e4 e5 e6 e7 e8 a n cl p0 p1 p2 p3 p4 p5 p6 p7 p8 q0 q1 q2 q3 q4 q5 q6 q7 q8 x y B w hn ha h00 h01 h02 h03 h04 h10 h11 h12 h13 h14 hx hy hBs).mono ?_
 rintro e w' ⟨rfl, b⟩
 exact ⟨_, _, _, _, _, _, _, _, _, _, rfl, ⟨rfl, leaf_isQ _ _ 1 _ _ (by omega) (by unfold tN; split <;> omega) (by rw [e0sP]; omega)⟩, b⟩
theorem ne_op (e0 e1 : Int) (e2 : ByteArray) (e3 : Option Addr) (e4 e5 : Nat) (e6 : Option Addr) (e7 e8 : Nat) (a : Addr) (n cl : Nat) (p0 p1 : Int) (p2 : ByteArray) (p3 : Option Addr) (p4 p5 : Nat) (p6 : Option Addr) (p7 p8 : Nat) (q0 q1 : Int) (q2 : ByteArray) (q3 : Option Addr) (q4 q5 : Nat) (q6 : Option Addr) (q7 q8 : Nat) (x y : Vl) (B : Nat) (w : World) (hn : 2 ≤ n) (ha : a.block < w.heap.size) (h00 : w.cell? a = some (.int .i64 p0)) (h01 : w.cell? ⟨a.block, a.off + 1, none⟩ = some (.int .i64 p1)) (h02 : w.cell? ⟨a.block, a.off + 2, none⟩ = some (.string p2)) (h03 : w.cell? ⟨a.block, a.off + 3, none⟩ = some (.slice p3 p4 p5)) (h04 : w.cell? ⟨a.block, a.off + 4, none⟩ = some (.slice p6 p7 p8)) (h10 : w.cell? ⟨a.block, a.off + 5, none⟩ = some (.int .i64 q0)) (h11 : w.cell? ⟨a.block, a.off + 5 + 1, none⟩ = some (.int .i64 q1)) (h12 : w.cell? ⟨a.block, a.off + 5 + 2, none⟩ = some (.string q2)) (h13 : w.cell? ⟨a.block, a.off + 5 + 3, none⟩ = some (.slice q3 q4 q5)) (h14 : w.cell? ⟨a.block, a.off + 5 + 4, none⟩ = some (.slice q6 q7 q8)) (hx : IsV w B x (.agg #[.int .i64 p0, .int .i64 p1, .string p2, .slice p3 p4 p5, .slice p6 p7 p8])) (hy : IsV w B y (.agg #[.int .i64 q0, .int .i64 q1, .string q2, .slice q3 q4 q5, .slice q6 q7 q8])) (hBs : B ≤ w.heap.size) :
  Calls Tryz.prog 56 #[.agg #[.int .i64 e0, .int .i64 e1, .string e2, .slice e3 e4 e5, .slice e6 e7 e8, .slice (some a) n cl]] w fun e w' => OpPost w (tv (tst 18 (ord0 x y)), 0) e w' := by
 refine (ne_any e0 e1 e2 e3 e4 e5 e6 e7 e8 a n cl p0 p1 p2 p3 p4 p5 p6 p7 p8 q0 q1 q2 q3 q4 q5 q6 q7 q8 x y B w hn ha h00 h01 h02 h03 h04 h10 h11 h12 h13 h14 hx hy hBs).mono ?_
 rintro e w' ⟨rfl, b⟩
 exact ⟨_, _, _, _, _, _, _, _, _, _, rfl, ⟨rfl, leaf_isQ _ _ 1 _ _ (by omega) (by unfold tN; split <;> omega) (by rw [e0sP]; omega)⟩, b⟩
theorem lt_op (e0 e1 : Int) (e2 : ByteArray) (e3 : Option Addr) (e4 e5 : Nat) (e6 : Option Addr) (e7 e8 : Nat) (a : Addr) (n cl : Nat) (p0 p1 : Int) (p2 : ByteArray) (p3 : Option Addr) (p4 p5 : Nat) (p6 : Option Addr) (p7 p8 : Nat) (q0 q1 : Int) (q2 : ByteArray) (q3 : Option Addr) (q4 q5 : Nat) (q6 : Option Addr) (q7 q8 : Nat) (x y : Vl) (B : Nat) (w : World) (hn : 2 ≤ n) (ha : a.block < w.heap.size) (h00 : w.cell? a = some (.int .i64 p0)) (h01 : w.cell? ⟨a.block, a.off + 1, none⟩ = some (.int .i64 p1)) (h02 : w.cell? ⟨a.block, a.off + 2, none⟩ = some (.string p2)) (h03 : w.cell? ⟨a.block, a.off + 3, none⟩ = some (.slice p3 p4 p5)) (h04 : w.cell? ⟨a.block, a.off + 4, none⟩ = some (.slice p6 p7 p8)) (h10 : w.cell? ⟨a.block, a.off + 5, none⟩ = some (.int .i64 q0)) (h11 : w.cell? ⟨a.block, a.off + 5 + 1, none⟩ = some (.int .i64 q1)) (h12 : w.cell? ⟨a.block, a.off + 5 + 2, none⟩ = some (.string q2)) (h13 : w.cell? ⟨a.block, a.off + 5 + 3, none⟩ = some (.slice q3 q4 q5)) (h14 : w.cell? ⟨a.block, a.off + 5 + 4, none⟩ = some (.slice q6 q7 q8)) (hx : IsV w B x (.agg #[.int .i64 p0, .int .i64 p1, .string p2, .slice p3 p4 p5, .slice p6 p7 p8])) (hy : IsV w B y (.agg #[.int .i64 q0, .int .i64 q1, .string q2, .slice q3 q4 q5, .slice q6 q7 q8])) (hBs : B ≤ w.heap.size) :
  Calls Tryz.prog 57 #[.agg #[.int .i64 e0, .int .i64 e1, .string e2, .slice e3 e4 e5, .slice e6 e7 e8, .slice (some a) n cl]] w fun e w' => OpPost w (tv (tst 19 (ord0 x y)), 0) e w' := by
 refine (lt_any e0 e1 e2 e3 e4 e5 e6 e7 e8 a n cl p0 p1 p2 p3 p4 p5 p6 p7 p8 q0 q1 q2 q3 q4 q5 q6 q7 q8 x y B w hn ha h00 h01 h02 h03 h04 h10 h11 h12 h13 h14 hx hy hBs).mono ?_
 rintro e w' ⟨rfl, b⟩
 exact ⟨_, _, _, _, _, _, _, _, _, _, rfl, ⟨rfl, leaf_isQ _ _ 1 _ _ (by omega) (by unfold tN; split <;> omega) (by rw [e0sP]; omega)⟩, b⟩
theorem le_op (e0 e1 : Int) (e2 : ByteArray) (e3 : Option Addr) (e4 e5 : Nat) (e6 : Option Addr) (e7 e8 : Nat) (a : Addr) (n cl : Nat) (p0 p1 : Int) (p2 : ByteArray) (p3 : Option Addr) (p4 p5 : Nat) (p6 : Option Addr) (p7 p8 : Nat) (q0 q1 : Int) (q2 : ByteArray) (q3 : Option Addr) (q4 q5 : Nat) (q6 : Option Addr) (q7 q8 : Nat) (x y : Vl) (B : Nat) (w : World) (hn : 2 ≤ n) (ha : a.block < w.heap.size) (h00 : w.cell? a = some (.int .i64 p0)) (h01 : w.cell? ⟨a.block, a.off + 1, none⟩ = some (.int .i64 p1)) (h02 : w.cell? ⟨a.block, a.off + 2, none⟩ = some (.string p2)) (h03 : w.cell? ⟨a.block, a.off + 3, none⟩ = some (.slice p3 p4 p5)) (h04 : w.cell? ⟨a.block, a.off + 4, none⟩ = some (.slice p6 p7 p8)) (h10 : w.cell? ⟨a.block, a.off + 5, none⟩ = some (.int .i64 q0)) (h11 : w.cell? ⟨a.block, a.off + 5 + 1, none⟩ = some (.int .i64 q1)) (h12 : w.cell? ⟨a.block, a.off + 5 + 2, none⟩ = some (.string q2)) (h13 : w.cell? ⟨a.block, a.off + 5 + 3, none⟩ = some (.slice q3 q4 q5)) (h14 : w.cell? ⟨a.block, a.off + 5 + 4, none⟩ = some (.slice q6 q7 q8)) (hx : IsV w B x (.agg #[.int .i64 p0, .int .i64 p1, .string p2, .slice p3 p4 p5, .slice p6 p7 p8])) (hy : IsV w B y (.agg #[.int .i64 q0, .int .i64 q1, .string q2, .slice q3 q4 q5, .slice q6 q7 q8])) (hBs : B ≤ w.heap.size) :
  Calls Tryz.prog 58 #[.agg #[.int .i64 e0, .int .i64 e1, .string e2, .slice e3 e4 e5, .slice e6 e7 e8, .slice (some a) n cl]] w fun e w' => OpPost w (tv (tst 20 (ord0 x y)), 0) e w' := by
 refine (le_any e0 e1 e2 e3 e4 e5 e6 e7 e8 a n cl p0 p1 p2 p3 p4 p5 p6 p7 p8 q0 q1 q2 q3 q4 q5 q6 q7 q8 x y B w hn ha h00 h01 h02 h03 h04 h10 h11 h12 h13 h14 hx hy hBs).mono ?_
 rintro e w' ⟨rfl, b⟩
 exact ⟨_, _, _, _, _, _, _, _, _, _, rfl, ⟨rfl, leaf_isQ _ _ 1 _ _ (by omega) (by unfold tN; split <;> omega) (by rw [e0sP]; omega)⟩, b⟩
theorem gt_op (e0 e1 : Int) (e2 : ByteArray) (e3 : Option Addr) (e4 e5 : Nat) (e6 : Option Addr) (e7 e8 : Nat) (a : Addr) (n cl : Nat) (p0 p1 : Int) (p2 : ByteArray) (p3 : Option Addr) (p4 p5 : Nat) (p6 : Option Addr) (p7 p8 : Nat) (q0 q1 : Int) (q2 : ByteArray) (q3 : Option Addr) (q4 q5 : Nat) (q6 : Option Addr) (q7 q8 : Nat) (x y : Vl) (B : Nat) (w : World) (hn : 2 ≤ n) (ha : a.block < w.heap.size) (h00 : w.cell? a = some (.int .i64 p0)) (h01 : w.cell? ⟨a.block, a.off + 1, none⟩ = some (.int .i64 p1)) (h02 : w.cell? ⟨a.block, a.off + 2, none⟩ = some (.string p2)) (h03 : w.cell? ⟨a.block, a.off + 3, none⟩ = some (.slice p3 p4 p5)) (h04 : w.cell? ⟨a.block, a.off + 4, none⟩ = some (.slice p6 p7 p8)) (h10 : w.cell? ⟨a.block, a.off + 5, none⟩ = some (.int .i64 q0)) (h11 : w.cell? ⟨a.block, a.off + 5 + 1, none⟩ = some (.int .i64 q1)) (h12 : w.cell? ⟨a.block, a.off + 5 + 2, none⟩ = some (.string q2)) (h13 : w.cell? ⟨a.block, a.off + 5 + 3, none⟩ = some (.slice q3 q4 q5)) (h14 : w.cell? ⟨a.block, a.off + 5 + 4, none⟩ = some (.slice q6 q7 q8)) (hx : IsV w B x (.agg #[.int .i64 p0, .int .i64 p1, .string p2, .slice p3 p4 p5, .slice p6 p7 p8])) (hy : IsV w B y (.agg #[.int .i64 q0, .int .i64 q1, .string q2, .slice q3 q4 q5, .slice q6 q7 q8])) (hBs : B ≤ w.heap.size) :
  Calls Tryz.prog 59 #[.agg #[.int .i64 e0, .int .i64 e1, .string e2, .slice e3 e4 e5, .slice e6 e7 e8, .slice (some a) n cl]] w fun e w' => OpPost w (tv (tst 21 (ord0 x y)), 0) e w' := by
 refine (gt_any e0 e1 e2 e3 e4 e5 e6 e7 e8 a n cl p0 p1 p2 p3 p4 p5 p6 p7 p8 q0 q1 q2 q3 q4 q5 q6 q7 q8 x y B w hn ha h00 h01 h02 h03 h04 h10 h11 h12 h13 h14 hx hy hBs).mono ?_
 rintro e w' ⟨rfl, b⟩
 exact ⟨_, _, _, _, _, _, _, _, _, _, rfl, ⟨rfl, leaf_isQ _ _ 1 _ _ (by omega) (by unfold tN; split <;> omega) (by rw [e0sP]; omega)⟩, b⟩
theorem ge_op (e0 e1 : Int) (e2 : ByteArray) (e3 : Option Addr) (e4 e5 : Nat) (e6 : Option Addr) (e7 e8 : Nat) (a : Addr) (n cl : Nat) (p0 p1 : Int) (p2 : ByteArray) (p3 : Option Addr) (p4 p5 : Nat) (p6 : Option Addr) (p7 p8 : Nat) (q0 q1 : Int) (q2 : ByteArray) (q3 : Option Addr) (q4 q5 : Nat) (q6 : Option Addr) (q7 q8 : Nat) (x y : Vl) (B : Nat) (w : World) (hn : 2 ≤ n) (ha : a.block < w.heap.size) (h00 : w.cell? a = some (.int .i64 p0)) (h01 : w.cell? ⟨a.block, a.off + 1, none⟩ = some (.int .i64 p1)) (h02 : w.cell? ⟨a.block, a.off + 2, none⟩ = some (.string p2)) (h03 : w.cell? ⟨a.block, a.off + 3, none⟩ = some (.slice p3 p4 p5)) (h04 : w.cell? ⟨a.block, a.off + 4, none⟩ = some (.slice p6 p7 p8)) (h10 : w.cell? ⟨a.block, a.off + 5, none⟩ = some (.int .i64 q0)) (h11 : w.cell? ⟨a.block, a.off + 5 + 1, none⟩ = some (.int .i64 q1)) (h12 : w.cell? ⟨a.block, a.off + 5 + 2, none⟩ = some (.string q2)) (h13 : w.cell? ⟨a.block, a.off + 5 + 3, none⟩ = some (.slice q3 q4 q5)) (h14 : w.cell? ⟨a.block, a.off + 5 + 4, none⟩ = some (.slice q6 q7 q8)) (hx : IsV w B x (.agg #[.int .i64 p0, .int .i64 p1, .string p2, .slice p3 p4 p5, .slice p6 p7 p8])) (hy : IsV w B y (.agg #[.int .i64 q0, .int .i64 q1, .string q2, .slice q3 q4 q5, .slice q6 q7 q8])) (hBs : B ≤ w.heap.size) :
  Calls Tryz.prog 60 #[.agg #[.int .i64 e0, .int .i64 e1, .string e2, .slice e3 e4 e5, .slice e6 e7 e8, .slice (some a) n cl]] w fun e w' => OpPost w (tv (tst 22 (ord0 x y)), 0) e w' := by
 refine (ge_any e0 e1 e2 e3 e4 e5 e6 e7 e8 a n cl p0 p1 p2 p3 p4 p5 p6 p7 p8 q0 q1 q2 q3 q4 q5 q6 q7 q8 x y B w hn ha h00 h01 h02 h03 h04 h10 h11 h12 h13 h14 hx hy hBs).mono ?_
 rintro e w' ⟨rfl, b⟩
 exact ⟨_, _, _, _, _, _, _, _, _, _, rfl, ⟨rfl, leaf_isQ _ _ 1 _ _ (by omega) (by unfold tN; split <;> omega) (by rw [e0sP]; omega)⟩, b⟩
def Pk (w : World) (ks : List Int) : Prop := ks.length = 64 ∧ ∃ t0 tK, Words w 1 t0 H0 ∧ Words w 2 tK ks
theorem Pk.later {B : Nat} {w w' : World} {ks : List Int} (h : Pk w ks) (hb : Below B w w') (hB : w.heap.size ≤ B) : Pk w' ks := by
 obtain ⟨h1, t0, tK, h2, h3⟩ := h
 have l2 := (Array.getElem?_eq_some_iff.1 h2).1
 have l3 := (Array.getElem?_eq_some_iff.1 h3).1
 exact ⟨h1, t0, tK, (hb.block _ (Nat.lt_of_lt_of_le l2 hB)).trans h2, (hb.block _ (Nat.lt_of_lt_of_le l3 hB)).trans h3⟩
theorem sum_rowP (ao : Option Addr) (len cap : Nat) (zs ks : List Int) (w : World) (hr : Row8 w ao len cap zs) (hp : Pk w ks) (hm : len ≤ 9223372036854775807) :
  Calls Tryz.prog 114 #[.slice ao len cap] w fun e w' => e = .returned (.agg ((digM ks zs).map (Value.int .u8)).toArray) ∧ Below w.heap.size w w' := by
 have hl := hr.length
 subst hl
 obtain ⟨h1, t0, tK, h2, h3⟩ := hp
 obtain ⟨p, hp'⟩ : ∃ p, 0 < zs.length → ∃ o, ao = some ⟨p, o, none⟩ ∧ p < w.heap.size ∧ ∀ j, j < zs.length → w.cell? ⟨p, o + j, none⟩ = some (.int .u8 (zs.getD j 0)) := by
  by_cases h : 0 < zs.length
  ·obtain ⟨b, off, e, hc⟩ := hr.at h
   exact ⟨b, fun _ => ⟨off, e, hr.block _ e h, hc⟩⟩
  ·exact ⟨0, fun h' => absurd h' h⟩
 exact sum_any p ao cap zs ks w hr.small h1 h2 h3 hr.le (by omega) hp'
theorem strOfNums_sizeH (zs : List Int) : (strOfNums zs).size = zs.length := by simp [strOfNums, ByteArray.size]
def digV (ks : List Int) (x : Vl) : Vl × Int := (.mk 3 0 (strOfNums (digM ks (wenc0R x))) [] [], 0)
theorem sizeA32 : (Tryz.prog.info? 94).map (·.size) = some 32 := by kernel_rfl
def zeroA32 : Array Value := (Array.replicate 32 (.int .u8 0))
theorem zeroA32_is : (Tryz.prog.info? 94).bind (·.zero) = some (.agg zeroA32) := by kernel_rfl
theorem digest_op (e0 e1 : Int) (e2 : ByteArray) (e3 : Option Addr) (e4 e5 : Nat) (e6 : Option Addr) (e7 e8 : Nat) (a : Addr) (n cl : Nat) (p0 p1 : Int) (p2 : ByteArray) (p3 : Option Addr) (p4 p5 : Nat) (p6 : Option Addr) (p7 p8 : Nat) (x : Vl) (B : Nat) (w : World) (hn : 1 ≤ n) (ha : a.block < w.heap.size) (h00 : w.cell? a = some (.int .i64 p0)) (h01 : w.cell? ⟨a.block, a.off + 1, none⟩ = some (.int .i64 p1)) (h02 : w.cell? ⟨a.block, a.off + 2, none⟩ = some (.string p2)) (h03 : w.cell? ⟨a.block, a.off + 3, none⟩ = some (.slice p3 p4 p5)) (h04 : w.cell? ⟨a.block, a.off + 4, none⟩ = some (.slice p6 p7 p8)) (hx : IsV w B x (.agg #[.int .i64 p0, .int .i64 p1, .string p2, .slice p3 p4 p5, .slice p6 p7 p8])) (hBs : B ≤ w.heap.size) (ks : List Int) (hpk : Pk w ks) (hrx : rightB x = true) :
  Calls Tryz.prog 74 #[.agg #[.int .i64 e0, .int .i64 e1, .string e2, .slice e3 e4 e5, .slice e6 e7 e8, .slice (some a) n cl]] w fun e w' => OpPost w (digV ks x) e w' := by
 obtain ⟨gb, hgb⟩ : ∃ gb, w.heap.size = gb := ⟨_, rfl⟩
 obtain ⟨v1, hv1⟩ : ∃ v1, w.alloc (.cells #[.int .i64 e0, .int .i64 e1, .string e2, .slice e3 e4 e5, .slice e6 e7 e8, .slice (some a) n cl] 50) = v1 := ⟨_, rfl⟩
 obtain ⟨gr, hgr⟩ : ∃ gr, v1.heap.size = gr := ⟨_, rfl⟩
 obtain ⟨v2, hv2⟩ : ∃ v2, v1.alloc (.cells #[.int .i64 0, .int .i64 0, .string ⟨#[]⟩, .slice none 0 0, .slice none 0 0] 25) = v2 := ⟨_, rfl⟩
 have n1 : v1.heap[gb]? = some (.cells #[.int .i64 e0, .int .i64 e1, .string e2, .slice e3 e4 e5, .slice e6 e7 e8, .slice (some a) n cl] 50 (0, 0)) := by rw [← hv1, ← hgb]; exact heap_alloc_new w _
 have n2 : v2.heap[gr]? = some (.cells #[.int .i64 0, .int .i64 0, .string ⟨#[]⟩, .slice none 0 0, .slice none 0 0] 25 (0, 0)) := by rw [← hv2, ← hgr]; exact heap_alloc_new v1 _
 have b1 : Below w.heap.size w v1 := by rw [← hv1]; exact (Below.refl _ _).alloc (Nat.le_refl _) _
 have b2 : Below v1.heap.size v1 v2 := by rw [← hv2]; exact (Below.refl _ _).alloc (Nat.le_refl _) _
 have s1 : v1.heap.size = w.heap.size + 1 := by rw [← hv1]; simp
 have HM : Hid (Below w.heap.size w v2 ∧ v2.heap[gb]? = some (.cells #[.int .i64 e0, .int .i64 e1, .string e2, .slice e3 e4 e5, .slice e6 e7 e8, .slice (some a) n cl] 50 (0, 0)) ∧ v2.heap[gr]? = some (.cells #[.int .i64 0, .int .i64 0, .string ⟨#[]⟩, .slice none 0 0, .slice none 0 0] 25 (0, 0)) ∧ w.heap.size ≤ gr ∧ gr < v2.heap.size) := hide ⟨b1.trans (b2.mono b1.size), (b2.block gb (by omega)).trans n1, n2, by omega, (Array.getElem?_eq_some_iff.1 n2).1⟩
 obtain ⟨t0, t1, t2, t3, t4, t5⟩ := block6 (uh HM).2.1
 have hA00 : v2.cell? a = some (.int .i64 p0) := ((uh HM).1.cell (p := a) ha).trans h00
 have hA01 : v2.cell? ⟨a.block, a.off + 1, none⟩ = some (.int .i64 p1) := ((uh HM).1.cell (p := ⟨a.block, a.off + 1, none⟩) ha).trans h01
 have hA02 : v2.cell? ⟨a.block, a.off + 2, none⟩ = some (.string p2) := ((uh HM).1.cell (p := ⟨a.block, a.off + 2, none⟩) ha).trans h02
 have hA03 : v2.cell? ⟨a.block, a.off + 3, none⟩ = some (.slice p3 p4 p5) := ((uh HM).1.cell (p := ⟨a.block, a.off + 3, none⟩) ha).trans h03
 have hA04 : v2.cell? ⟨a.block, a.off + 4, none⟩ = some (.slice p6 p7 p8) := ((uh HM).1.cell (p := ⟨a.block, a.off + 4, none⟩) ha).trans h04
 have hl0 : (0 : Int) < (n : Int) := by omega
 have CE := hide (encode_any x _ B v2 (IsV.mono ((uh HM).1.mono hBs) hx) (Nat.le_trans hBs (uh HM).1.size))
 obtain ⟨zs, hzs⟩ : ∃ zs, wenc0R x = zs := ⟨_, rfl⟩
 obtain ⟨D, hD⟩ : ∃ D, digM ks zs = D := ⟨_, rfl⟩
 have hDl : D.length = 32 := by rw [← hD]; exact digM_len _ _
 obtain ⟨tx, htx⟩ : ∃ tx, strOfNums D = tx := ⟨_, rfl⟩
 have htl : tx.size = 32 := by rw [← htx]; rw [strOfNums_sizeH, hDl]
 have e9 : digV ks x = (.mk 3 0 tx [] [], 0) := by unfold digV; rw [hzs, hD, htx]
 rw [e9]
 rw [hzs] at CE
 have HPK : Hid (∀ u, Below v2.heap.size v2 u → Pk u ks) := hide (fun u hu => (hpk.later (uh HM).1 (Nat.le_refl _)).later hu (Nat.le_refl _))
 have HDD := hide (And.intro hD (And.intro hDl htx))
 obtain ⟨iv, hiv, hzv⟩ : ∃ i, Tryz.prog.info? 94 = some i ∧ i.zero = some (.agg zeroA32) := by
  have h := zeroA32_is
  cases hq : Tryz.prog.info? 94 with
  | none => rw [hq] at h; cases h
  | some i => rw [hq] at h; exact ⟨i, rfl, h⟩
 have hS32 : (Tryz.prog.info? 94).map (·.size) = some (D.map (Value.int .u8)).toArray.size := by rw [sizeA32]; simp [hDl]
 have hZ32 : zeroA32.size = (D.map (Value.int .u8)).toArray.size := by simp [zeroA32, hDl]
 have h1c : (D.map (Value.int .u8)).toArray.all (·.oneCell') = true := all_oneCell_toArray (by intro v hv; obtain ⟨m, _, rfl⟩ := List.mem_map.1 hv; rfl)
 have HAR := hide (And.intro hiv (And.intro hzv (And.intro hS32 (And.intro hZ32 h1c))))
 have HSM : Hid (∀ y ∈ D, 0 ≤ y ∧ y ≤ 255) := hide (by rw [← hD]; exact bytesL_bounds _)
 clear n1 n2 b1 b2 s1 h00 h01 h02 h03 h04 hx hBs hrx hpk hzs hD hDl htx e9 hiv hzv hS32 hZ32 h1c
 go_enter Tryz.func74, Tryz.ntmps74
 go_wp2_with fail
 refine (uh CE).mono ?_
 rintro e u1 ⟨ao, len, cap, rfl, hr8, d1, _, hcap⟩
 have HY1 := hide d1
 have CS := hide (sum_rowP ao len cap zs ks u1 hr8 (uh HPK u1 d1) (by have h1 := hr8.le; unfold maxLen at hcap; omega))
 clear d1 hr8 CE t0 t1 t2 t3 t4 t5 hA00 hA01 hA02 hA03 hA04
 go_wp2_with fail
 refine (uh CS).mono ?_
 rintro e u2 ⟨rfl, d2⟩
 have HY2 : Hid (Below v2.heap.size v2 u2) := hide ((uh HY1).trans (d2.mono (uh HY1).size))
 rw [(uh HDD).1]
 clear d2 CS HY1
 have tokA : True := trivial
 go_upto_region 3 with (first | (have _t := tokA; refine wpList_new_arr rfl 94 rfl iv zeroA32 (uh HAR).1 (uh HAR).2.1 ?_; intro u3 H3; refine wpList_put_arr rfl 94 (.tmp 6) (.tmp 16) rfl u2.heap.size zeroA32 (D.map (Value.int .u8)).toArray rfl rfl (uh H3).at' (uh HAR).2.2.2.1 (uh HAR).2.2.1 (uh HAR).2.2.2.2 ?_; intro u4 H4; clear tokA))
 obtain ⟨b6, hb6⟩ : ∃ b6, u2.heap.size = b6 := ⟨_, rfl⟩
 have HY4 : Hid (Below v2.heap.size v2 u4 ∧ u4.heap[b6]? = some (.cells (D.map (Value.int .u8)).toArray 94 (0, 0))) := hide (by
  have h3 := (uh HY2).trans ((uh H3).below.mono (uh HY2).size)
  refine ⟨(uh H4).below v2.heap.size v2 h3 (uh HY2).size, ?_⟩
  rw [← hb6]
  exact (uh H4).at')
 have hcv : Sem.run Tryz.prog (convert 40 9 (.slice (some ⟨b6, 0, none⟩) 32 32)) u4 = .ok (.string tx) u4 := by
  have hc : ∀ j, j < 32 → u4.cell? ⟨b6, 0 + j, none⟩ = some (.int .u8 (D.getD j 0)) := fun j hj => by
   rw [Nat.zero_add, cell_of_row u4 b6 j _ _ (0, 0) (uh HY4).2]
   simp [List.getD, (uh HDD).2.1, hj]
  have := conv_row (w := u4) (b := b6) (off := 0) (len := 32) (zs := D) (uh HDD).2.1 hc 0 32 32 (by omega) 0
  rw [List.drop_zero, List.take_of_length_le (Nat.le_of_eq (uh HDD).2.1), (uh HDD).2.2] at this
  exact this
 try rw [hb6]
 have ER : Hid (u4.heap[gr]? = some (.cells #[.int .i64 0, .int .i64 0, .string ⟨#[]⟩, .slice none 0 0, .slice none 0 0] 25 (0, 0))) := hide (((uh HY4).1.block gr (uh HM).2.2.2.2).trans (uh HM).2.2.1)
 obtain ⟨r0z, r1z, r2z, r3z, r4z⟩ := block5 (uh ER)
 obtain ⟨f0, f1, f2, f3, f4⟩ := fr5 (uh ER)
 clear H3 H4 hb6
 go_wp2_with fail
 (try simp only [Exit.inBlock, Exit.then])
 refine bodyPost_ret (ret_ct rfl _ _ gr #[.int .i64 3, .int .i64 0, .string tx, .slice none 0 0, .slice none 0 0] _ _ rfl (set5P (uh ER) _ _ _ _ _) Tryz.underlying25 rfl size_vl) rfl ?_
 exact op_fin (uh HM).1 (uh HM).2.2.2.1 (uh HM).2.2.2.2 (uh HY4).1 (leaf_isQ _ _ 3 0 tx (by omega) (by omega) (by omega)) rfl
end Go.Proofs.YtgkmdjmigehmeaaGreatDoor

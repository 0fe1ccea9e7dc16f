/-
  told, with, without (prim); no conditions but the form's own reach.
-/
import Derived.Test.YtgkmdjmigehmeaaGreatDoorR37
import Derived.Test.YtgkmdjmigehmeaaGreatDoorR22
namespace Go.Proofs.YtgkmdjmigehmeaaGreatDoor
set_option linter.unusedVariables false
set_option linter.unusedSimpArgs false
set_option maxRecDepth 100000
set_option maxHeartbeats 16000000
open Go.RowKit Go.Shelf
theorem IsQ.low {w : World} {Q : Nat → Prop} {v : Vl} {x : Value} (h : IsQ w Q v x) (hQ : ∀ b, Q b → b < w.heap.size) : IsQ w (fun b => Q b ∧ b < w.heap.size) v x := h.weak (fun b hb => ⟨hb, hQ b hb⟩)
def toldV (v : Vl) (e : Int) : Vl × Int := if e = 0 then (v, 0) else if e = 32 then (vlz, 6) else (vlz, 5)
theorem told_any (v : Vl) (s0 s1 : Int) (s2 : ByteArray) (s3 : Option Addr) (s4 s5 : Nat) (s6 : Option Addr) (s7 s8 : Nat) (ec : Int) (w : World) (Q : Nat → Prop) (hq : IsQ w Q v (.agg #[.int .i64 s0, .int .i64 s1, .string s2, .slice s3 s4 s5, .slice s6 s7 s8])) (hQ : ∀ b, Q b → b < w.heap.size) :
  Calls Tryz.prog 105 #[.agg #[.int .i64 s0, .int .i64 s1, .string s2, .slice s3 s4 s5, .slice s6 s7 s8], .int .i64 ec] w fun e w' => ∃ (y0 y1 : Int) (y2 : ByteArray) (y3 : Option Addr) (y4 y5 : Nat) (y6 : Option Addr) (y7 y8 : Nat) (t : Int), e = .returned (.tuple #[.agg #[.int .i64 y0, .int .i64 y1, .string y2, .slice y3 y4 y5, .slice y6 y7 y8], .int .i64 t]) ∧ (t = (toldV v ec).2 ∧ IsQ w' (fun b => Q b ∧ b < w.heap.size) (toldV v ec).1 (.agg #[.int .i64 y0, .int .i64 y1, .string y2, .slice y3 y4 y5, .slice y6 y7 y8])) ∧ Below w.heap.size w w' := by
 have hqb : IsQ w (fun b => Q b ∧ b < w.heap.size) v (.agg #[.int .i64 s0, .int .i64 s1, .string s2, .slice s3 s4 s5, .slice s6 s7 s8]) := hq.low hQ
 obtain ⟨gv, hgv⟩ : ∃ g, w.heap.size = g := ⟨_, rfl⟩
 obtain ⟨v1, hv1⟩ : ∃ u, w.alloc (.cells #[.int .i64 s0, .int .i64 s1, .string s2, .slice s3 s4 s5, .slice s6 s7 s8] 25) = u := ⟨_, rfl⟩
 obtain ⟨gr, hgr⟩ : ∃ g, v1.heap.size = g := ⟨_, rfl⟩
 obtain ⟨v2, hv2⟩ : ∃ u, v1.alloc (.cells #[.int .i64 0, .int .i64 0, .string ⟨#[]⟩, .slice none 0 0, .slice none 0 0] 25) = u := ⟨_, rfl⟩
 have n1 : v1.heap[gv]? = some (.cells #[.int .i64 s0, .int .i64 s1, .string s2, .slice s3 s4 s5, .slice s6 s7 s8] 25 (0, 0)) := by rw [← hv1, ← hgv]; exact heap_alloc_new w _
 have n2 : v2.heap[gr]? = some (.cells #[.int .i64 0, .int .i64 0, .string ⟨#[]⟩, .slice none 0 0, .slice none 0 0] 25 (0, 0)) := by rw [← hv2, ← hgr]; exact heap_alloc_new v1 _
 have b1 : Below w.heap.size w v1 := by rw [← hv1]; exact (Below.refl _ _).alloc (Nat.le_refl _) _
 have b2 : Below v1.heap.size v1 v2 := by rw [← hv2]; exact (Below.refl _ _).alloc (Nat.le_refl _) _
 have hs1 : v1.heap.size = w.heap.size + 1 := by rw [← hv1]; simp
 have HM : Hid (Below w.heap.size w v2 ∧ v2.heap[gv]? = some (.cells #[.int .i64 s0, .int .i64 s1, .string s2, .slice s3 s4 s5, .slice s6 s7 s8] 25 (0, 0)) ∧ v2.heap[gr]? = some (.cells #[.int .i64 0, .int .i64 0, .string ⟨#[]⟩, .slice none 0 0, .slice none 0 0] 25 (0, 0)) ∧ w.heap.size ≤ gr ∧ gr < v2.heap.size) := hide ⟨b1.trans (b2.mono b1.size), (b2.block gv (by omega)).trans n1, n2, by omega, (Array.getElem?_eq_some_iff.1 n2).1⟩
 obtain ⟨t0, t1, t2, t3, t4⟩ := block5 (uh HM).2.1
 have HQ := hide hqb
 have HBB : Hid (∀ b, b < w.heap.size → b ≠ gr) := hide (fun b hb => by have := (uh HM).2.2.2.1; omega)
 clear n1 n2 b1 b2 hs1 hq hqb
 by_cases h0 : ec = 0
 ·subst h0
  have e1 : toldV v 0 = (v, 0) := by unfold toldV; rw [if_pos rfl]
  rw [e1]
  obtain ⟨r0z, r1z, r2z, r3z, r4z⟩ := block5 (uh HM).2.2.1
  have f0 := frozen_of_row v2 gr 0 _ _ (uh HM).2.2.1
  have f1 := frozen_of_row v2 gr 1 _ _ (uh HM).2.2.1
  have f2 := frozen_of_row v2 gr 2 _ _ (uh HM).2.2.1
  have f3 := frozen_of_row v2 gr 3 _ _ (uh HM).2.2.1
  have f4 := frozen_of_row v2 gr 4 _ _ (uh HM).2.2.1
  go_enter Tryz.func105, Tryz.ntmps105
  go_wp2_with fail
  (try simp only [Exit.inBlock, Exit.then])
  refine bodyPost_ret (ret_ct rfl _ _ gr #[.int .i64 s0, .int .i64 s1, .string s2, .slice s3 s4 s5, .slice s6 s7 s8] _ _ rfl (set5P (uh HM).2.2.1 _ _ _ _ _) Tryz.underlying25 rfl size_vl) rfl ?_
  refine ⟨_, _, _, _, _, _, _, _, _, _, rfl, ⟨rfl, (uh HQ).to (fun b hb => ?_) (fun b hb => hb)⟩, set5P_below (uh HM).1 (uh HM).2.2.2.1 _ _ _ _ _⟩
  have hne := uh HBB b hb.2
  rw [heap_setCell_other _ _ _ _ hne, heap_setCell_other _ _ _ _ hne, heap_setCell_other _ _ _ _ hne, heap_setCell_other _ _ _ _ hne, heap_setCell_other _ _ _ _ hne]
  exact (uh HM).1.block b hb.2
 ·have hb0 : (ec == 0) = false := beq_eq_false_iff_ne.2 h0
  by_cases h32 : ec = 32
  ·subst h32
   have e1 : toldV v 32 = (vlz, 6) := by unfold toldV; rw [if_neg (by decide), if_pos rfl]
   rw [e1]
   have CN := hide (trap_any 6 v2)
   go_enter Tryz.func105, Tryz.ntmps105
   go_wp2_with fail
   refine (uh CN).mono ?_
   rintro e W9 ⟨rfl, d5⟩
   have ER : Hid (W9.heap[gr]? = some (.cells #[.int .i64 0, .int .i64 0, .string ⟨#[]⟩, .slice none 0 0, .slice none 0 0] 25 (0, 0))) := hide ((d5.block gr (uh HM).2.2.2.2).trans (uh HM).2.2.1)
   obtain ⟨r0z, r1z, r2z, r3z, r4z⟩ := block5 (uh ER)
   obtain ⟨f0, f1, f2, f3, f4⟩ := fr5 (uh ER)
   have HBE := hide ((uh HM).1.trans (d5.mono (uh HM).1.size))
   clear d5 CN
   go_wp2_with fail
   (try simp only [Exit.inBlock, Exit.then])
   refine bodyPost_ret (ret_ct rfl _ _ gr #[.int .i64 0, .int .i64 0, .string ⟨#[]⟩, .slice none 0 0, .slice none 0 0] _ _ rfl (set5P (uh ER) _ _ _ _ _) Tryz.underlying25 rfl size_vl) rfl ?_
   exact ⟨_, _, _, _, _, _, _, _, _, _, rfl, ⟨rfl, leaf_isQ _ _ 0 0 _ (by omega) (by omega) (by rw [e0sP]; omega)⟩, set5P_below (uh HBE) (uh HM).2.2.2.1 _ _ _ _ _⟩
  ·have hb32 : (ec == 32) = false := beq_eq_false_iff_ne.2 h32
   have e1 : toldV v ec = (vlz, 5) := by unfold toldV; rw [if_neg h0, if_neg h32]
   rw [e1]
   have CN := hide (trap_any 5 v2)
   go_enter Tryz.func105, Tryz.ntmps105
   go_wp2_with fail
   refine (uh CN).mono ?_
   rintro e W9 ⟨rfl, d5⟩
   have ER : Hid (W9.heap[gr]? = some (.cells #[.int .i64 0, .int .i64 0, .string ⟨#[]⟩, .slice none 0 0, .slice none 0 0] 25 (0, 0))) := hide ((d5.block gr (uh HM).2.2.2.2).trans (uh HM).2.2.1)
   obtain ⟨r0z, r1z, r2z, r3z, r4z⟩ := block5 (uh ER)
   obtain ⟨f0, f1, f2, f3, f4⟩ := fr5 (uh ER)
   have HBE := hide ((uh HM).1.trans (d5.mono (uh HM).1.size))
   clear d5 CN
   go_wp2_with fail
   (try simp only [Exit.inBlock, Exit.then])
   refine bodyPost_ret (ret_ct rfl _ _ gr #[.int .i64 0, .int .i64 0, .string ⟨#[]⟩, .slice none 0 0, .slice none 0 0] _ _ rfl (set5P (uh ER) _ _ _ _ _) Tryz.underlying25 rfl size_vl) rfl ?_
   exact ⟨_, _, _, _, _, _, _, _, _, _, rfl, ⟨rfl, leaf_isQ _ _ 0 0 _ (by omega) (by omega) (by rw [e0sP]; omega)⟩, set5P_below (uh HBE) (uh HM).2.2.2.1 _ _ _ _ _⟩
theorem with_op (e0 e1 : Int) (e2 : ByteArray) (e3 : Option Addr) (e4 e5 : Nat) (e6 : Option Addr) (e7 e8 : Nat) (a : Addr) (n cl : Nat) (p0 p1 : Int) (p2 : ByteArray) (p3 : Option Addr) (p4 p5 : Nat) (p6 : Option Addr) (p7 p8 : Nat) (q0 q1 : Int) (q2 : ByteArray) (q3 : Option Addr) (q4 q5 : Nat) (q6 : Option Addr) (q7 q8 : Nat) (r0 r1 : Int) (r2 : ByteArray) (r3 : Option Addr) (r4 r5 : Nat) (r6 : Option Addr) (r7 r8 : Nat) (x y z : Vl) (B : Nat) (w : World) (hn : 3 ≤ n) (ha : a.block < w.heap.size) (h00 : w.cell? a = some (.int .i64 p0)) (h01 : w.cell? ⟨a.block, a.off + 1, none⟩ = some (.int .i64 p1)) (h02 : w.cell? ⟨a.block, a.off + 2, none⟩ = some (.string p2)) (h03 : w.cell? ⟨a.block, a.off + 3, none⟩ = some (.slice p3 p4 p5)) (h04 : w.cell? ⟨a.block, a.off + 4, none⟩ = some (.slice p6 p7 p8)) (h10 : w.cell? ⟨a.block, a.off + 5, none⟩ = some (.int .i64 q0)) (h11 : w.cell? ⟨a.block, a.off + 5 + 1, none⟩ = some (.int .i64 q1)) (h12 : w.cell? ⟨a.block, a.off + 5 + 2, none⟩ = some (.string q2)) (h13 : w.cell? ⟨a.block, a.off + 5 + 3, none⟩ = some (.slice q3 q4 q5)) (h14 : w.cell? ⟨a.block, a.off + 5 + 4, none⟩ = some (.slice q6 q7 q8)) (h20 : w.cell? ⟨a.block, a.off + 10, none⟩ = some (.int .i64 r0)) (h21 : w.cell? ⟨a.block, a.off + 10 + 1, none⟩ = some (.int .i64 r1)) (h22 : w.cell? ⟨a.block, a.off + 10 + 2, none⟩ = some (.string r2)) (h23 : w.cell? ⟨a.block, a.off + 10 + 3, none⟩ = some (.slice r3 r4 r5)) (h24 : w.cell? ⟨a.block, a.off + 10 + 4, none⟩ = some (.slice r6 r7 r8)) (hx : IsV w B x (.agg #[.int .i64 p0, .int .i64 p1, .string p2, .slice p3 p4 p5, .slice p6 p7 p8])) (hy : IsV w B y (.agg #[.int .i64 q0, .int .i64 q1, .string q2, .slice q3 q4 q5, .slice q6 q7 q8])) (hz : IsV w B z (.agg #[.int .i64 r0, .int .i64 r1, .string r2, .slice r3 r4 r5, .slice r6 r7 r8])) (hBs : B ≤ w.heap.size) :
  Calls Tryz.prog 69 #[.agg #[.int .i64 e0, .int .i64 e1, .string e2, .slice e3 e4 e5, .slice e6 e7 e8, .slice (some a) n cl]] w fun e w' => OpPost w (toldV (wiV x y.s z) (withE x y.s z)) e w' := by
 obtain ⟨gb, hgb⟩ : ∃ gb, w.heap.size = gb := ⟨_, rfl⟩
 obtain ⟨v1, hv1⟩ : ∃ v1, w.alloc (.cells #[.int .i64 e0, .int .i64 e1, .string e2, .slice e3 e4 e5, .slice e6 e7 e8, .slice (some a) n cl] 50) = v1 := ⟨_, rfl⟩
 obtain ⟨gr, hgr⟩ : ∃ gr, v1.heap.size = gr := ⟨_, rfl⟩
 obtain ⟨v2, hv2⟩ : ∃ v2, v1.alloc (.cells #[.int .i64 0, .int .i64 0, .string ⟨#[]⟩, .slice none 0 0, .slice none 0 0] 25) = v2 := ⟨_, rfl⟩
 have n1 : v1.heap[gb]? = some (.cells #[.int .i64 e0, .int .i64 e1, .string e2, .slice e3 e4 e5, .slice e6 e7 e8, .slice (some a) n cl] 50 (0, 0)) := by rw [← hv1, ← hgb]; exact heap_alloc_new w _
 have n2 : v2.heap[gr]? = some (.cells #[.int .i64 0, .int .i64 0, .string ⟨#[]⟩, .slice none 0 0, .slice none 0 0] 25 (0, 0)) := by rw [← hv2, ← hgr]; exact heap_alloc_new v1 _
 have b1 : Below w.heap.size w v1 := by rw [← hv1]; exact (Below.refl _ _).alloc (Nat.le_refl _) _
 have b2 : Below v1.heap.size v1 v2 := by rw [← hv2]; exact (Below.refl _ _).alloc (Nat.le_refl _) _
 have s1 : v1.heap.size = w.heap.size + 1 := by rw [← hv1]; simp
 have HM : Hid (Below w.heap.size w v2 ∧ v2.heap[gb]? = some (.cells #[.int .i64 e0, .int .i64 e1, .string e2, .slice e3 e4 e5, .slice e6 e7 e8, .slice (some a) n cl] 50 (0, 0)) ∧ v2.heap[gr]? = some (.cells #[.int .i64 0, .int .i64 0, .string ⟨#[]⟩, .slice none 0 0, .slice none 0 0] 25 (0, 0)) ∧ w.heap.size ≤ gr ∧ gr < v2.heap.size) := hide ⟨b1.trans (b2.mono b1.size), (b2.block gb (by omega)).trans n1, n2, by omega, (Array.getElem?_eq_some_iff.1 n2).1⟩
 obtain ⟨t0, t1, t2, t3, t4, t5⟩ := block6 (uh HM).2.1
 have hA00 : v2.cell? a = some (.int .i64 p0) := ((uh HM).1.cell (p := a) ha).trans h00
 have hA01 : v2.cell? ⟨a.block, a.off + 1, none⟩ = some (.int .i64 p1) := ((uh HM).1.cell (p := ⟨a.block, a.off + 1, none⟩) ha).trans h01
 have hA02 : v2.cell? ⟨a.block, a.off + 2, none⟩ = some (.string p2) := ((uh HM).1.cell (p := ⟨a.block, a.off + 2, none⟩) ha).trans h02
 have hA03 : v2.cell? ⟨a.block, a.off + 3, none⟩ = some (.slice p3 p4 p5) := ((uh HM).1.cell (p := ⟨a.block, a.off + 3, none⟩) ha).trans h03
 have hA04 : v2.cell? ⟨a.block, a.off + 4, none⟩ = some (.slice p6 p7 p8) := ((uh HM).1.cell (p := ⟨a.block, a.off + 4, none⟩) ha).trans h04
 have hA10 : v2.cell? ⟨a.block, a.off + 5, none⟩ = some (.int .i64 q0) := ((uh HM).1.cell (p := ⟨a.block, a.off + 5, none⟩) ha).trans h10
 have hA11 : v2.cell? ⟨a.block, a.off + 5 + 1, none⟩ = some (.int .i64 q1) := ((uh HM).1.cell (p := ⟨a.block, a.off + 5 + 1, none⟩) ha).trans h11
 have hA12 : v2.cell? ⟨a.block, a.off + 5 + 2, none⟩ = some (.string q2) := ((uh HM).1.cell (p := ⟨a.block, a.off + 5 + 2, none⟩) ha).trans h12
 have hA13 : v2.cell? ⟨a.block, a.off + 5 + 3, none⟩ = some (.slice q3 q4 q5) := ((uh HM).1.cell (p := ⟨a.block, a.off + 5 + 3, none⟩) ha).trans h13
 have hA14 : v2.cell? ⟨a.block, a.off + 5 + 4, none⟩ = some (.slice q6 q7 q8) := ((uh HM).1.cell (p := ⟨a.block, a.off + 5 + 4, none⟩) ha).trans h14
 have hA20 : v2.cell? ⟨a.block, a.off + 10, none⟩ = some (.int .i64 r0) := ((uh HM).1.cell (p := ⟨a.block, a.off + 10, none⟩) ha).trans h20
 have hA21 : v2.cell? ⟨a.block, a.off + 10 + 1, none⟩ = some (.int .i64 r1) := ((uh HM).1.cell (p := ⟨a.block, a.off + 10 + 1, none⟩) ha).trans h21
 have hA22 : v2.cell? ⟨a.block, a.off + 10 + 2, none⟩ = some (.string r2) := ((uh HM).1.cell (p := ⟨a.block, a.off + 10 + 2, none⟩) ha).trans h22
 have hA23 : v2.cell? ⟨a.block, a.off + 10 + 3, none⟩ = some (.slice r3 r4 r5) := ((uh HM).1.cell (p := ⟨a.block, a.off + 10 + 3, none⟩) ha).trans h23
 have hA24 : v2.cell? ⟨a.block, a.off + 10 + 4, none⟩ = some (.slice r6 r7 r8) := ((uh HM).1.cell (p := ⟨a.block, a.off + 10 + 4, none⟩) ha).trans h24
 have hlt0 : gb < v2.heap.size := (Array.getElem?_eq_some_iff.1 (uh HM).2.1).1
 have hlt1 : a.block < v2.heap.size := Nat.lt_of_lt_of_le ha (uh HM).1.size
 have hne0 : gb ≠ gr := by omega
 have hne1 : a.block ≠ gr := by omega
 have hl0 : (0 : Int) < (n : Int) := by omega
 have hl1 : (1 : Int) < (n : Int) := by omega
 have hl2 : (2 : Int) < (n : Int) := by omega
 have hky : q2 = y.s := by
  obtain ⟨k1, n1, s1, l1, ks1⟩ := y
  exact (IsP.at hy).2.2.1
 rw [← hky]
 obtain ⟨ec, hec⟩ : ∃ ec, withE x q2 z = ec := ⟨_, rfl⟩
 obtain ⟨vv, hvv⟩ : ∃ vv, wiV x q2 z = vv := ⟨_, rfl⟩
 rw [hec, hvv]
 obtain ⟨R, hR⟩ : ∃ R, toldV vv ec = R := ⟨_, rfl⟩
 rw [hR]
 have HRR : Hid (R = toldV vv ec) := hide hR.symm
 have CW : Hid (∀ u, Below v2.heap.size v2 u → Calls Tryz.prog 111 #[.agg #[.int .i64 p0, .int .i64 p1, .string p2, .slice p3 p4 p5, .slice p6 p7 p8], .string q2, .agg #[.int .i64 r0, .int .i64 r1, .string r2, .slice r3 r4 r5, .slice r6 r7 r8]] u fun e w' => ∃ x', e = .returned (.tuple #[x', .int .i64 ec]) ∧ Below u.heap.size u w' ∧ IsQ w' (fun b => u.heap.size ≤ b ∧ b < w'.heap.size) vv x') := hide (fun u hu => by
  have hwu := (uh HM).1.trans (hu.mono (uh HM).1.size)
  have := withQ_any x z _ _ B q2 u (IsV.mono (hwu.mono hBs) hx) (IsV.mono (hwu.mono hBs) hz) (Nat.le_trans hBs hwu.size)
  rw [hec, hvv] at this
  exact this)
 clear n1 n2 b1 b2 s1 h00 h01 h02 h03 h04 h10 h11 h12 h13 h14 h20 h21 h22 h23 h24 hx hy hz hBs hky hec hvv hR
 obtain ⟨W0, hW0⟩ : ∃ W0, v2.drew = W0 := ⟨_, rfl⟩
 have HY0 : Hid (Below v2.heap.size v2 W0) := hide (by rw [← hW0]; exact below_drew_of' (Below.refl _ _))
 go_enter Tryz.func69, Tryz.ntmps69
 go_upto_region 1 with fail
 have HS0 : Hid (v2.drew.cell? ⟨gb, 5, none⟩ = some (.slice (some a) n cl) ∧ v2.drew.cell? a = some (.int .i64 p0) ∧ v2.drew.cell? ⟨a.block, a.off + 1, none⟩ = some (.int .i64 p1) ∧ v2.drew.cell? ⟨a.block, a.off + 2, none⟩ = some (.string p2) ∧ v2.drew.cell? ⟨a.block, a.off + 3, none⟩ = some (.slice p3 p4 p5) ∧ v2.drew.cell? ⟨a.block, a.off + 4, none⟩ = some (.slice p6 p7 p8) ∧ v2.drew.cell? ⟨a.block, a.off + 5 + 2, none⟩ = some (.string q2) ∧ v2.drew.cell? ⟨a.block, a.off + 10, none⟩ = some (.int .i64 r0) ∧ v2.drew.cell? ⟨a.block, a.off + 10 + 1, none⟩ = some (.int .i64 r1) ∧ v2.drew.cell? ⟨a.block, a.off + 10 + 2, none⟩ = some (.string r2) ∧ v2.drew.cell? ⟨a.block, a.off + 10 + 3, none⟩ = some (.slice r3 r4 r5) ∧ v2.drew.cell? ⟨a.block, a.off + 10 + 4, none⟩ = some (.slice r6 r7 r8)) := hide ⟨t5, hA00, hA01, hA02, hA03, hA04, hA12, hA20, hA21, hA22, hA23, hA24⟩
 refine till_begin (S := fun w' => w'.cell? ⟨gb, 5, none⟩ = some (.slice (some a) n cl) ∧ w'.cell? a = some (.int .i64 p0) ∧ w'.cell? ⟨a.block, a.off + 1, none⟩ = some (.int .i64 p1) ∧ w'.cell? ⟨a.block, a.off + 2, none⟩ = some (.string p2) ∧ w'.cell? ⟨a.block, a.off + 3, none⟩ = some (.slice p3 p4 p5) ∧ w'.cell? ⟨a.block, a.off + 4, none⟩ = some (.slice p6 p7 p8) ∧ w'.cell? ⟨a.block, a.off + 5 + 2, none⟩ = some (.string q2) ∧ w'.cell? ⟨a.block, a.off + 10, none⟩ = some (.int .i64 r0) ∧ w'.cell? ⟨a.block, a.off + 10 + 1, none⟩ = some (.int .i64 r1) ∧ w'.cell? ⟨a.block, a.off + 10 + 2, none⟩ = some (.string r2) ∧ w'.cell? ⟨a.block, a.off + 10 + 3, none⟩ = some (.slice r3 r4 r5) ∧ w'.cell? ⟨a.block, a.off + 10 + 4, none⟩ = some (.slice r6 r7 r8)) 20 (by kernel_rfl) ?_
 refine till_take 0 (v := .pointer (some ⟨gb, 5, none⟩)) (some 4) rfl rfl rfl (by kernel_rfl) (by kernel_rfl) (by kernel_rfl) (by kernel_rfl) (fun _ _ _ h => h) (Or.inl ⟨by rfl, fun u hu => by obtain ⟨b0, b1, b2, b3, b4, b5, b6, b7, b8, b9, b10, b11⟩ := hu; go_simp⟩) (uh HS0) ?_
 try simp only [Act.put, setX]
 refine till_take 1 (v := .slice (some a) n cl) (some 5) rfl rfl rfl (by kernel_rfl) (by kernel_rfl) (by kernel_rfl) (by kernel_rfl) (fun _ _ _ h => h) (Or.inl ⟨by rfl, fun u hu => by obtain ⟨b0, b1, b2, b3, b4, b5, b6, b7, b8, b9, b10, b11⟩ := hu; go_simp⟩) (uh HS0) ?_
 try simp only [Act.put, setX]
 refine till_take 2 (v := .pointer (some a)) (some 6) rfl rfl rfl (by kernel_rfl) (by kernel_rfl) (by kernel_rfl) (by kernel_rfl) (fun _ _ _ h => h) (Or.inl ⟨by rfl, fun u hu => by obtain ⟨b0, b1, b2, b3, b4, b5, b6, b7, b8, b9, b10, b11⟩ := hu; go_simp; intro hz; omega⟩) (uh HS0) ?_
 try simp only [Act.put, setX]
 refine till_take 3 (v := .agg #[.int .i64 p0, .int .i64 p1, .string p2, .slice p3 p4 p5, .slice p6 p7 p8]) (some 7) rfl rfl rfl (by kernel_rfl) (by kernel_rfl) (by kernel_rfl) (by kernel_rfl) (fun _ _ _ h => h) (Or.inl ⟨by rfl, fun u hu => by obtain ⟨b0, b1, b2, b3, b4, b5, b6, b7, b8, b9, b10, b11⟩ := hu; go_simp⟩) (uh HS0) ?_
 try simp only [Act.put, setX]
 refine till_take 4 (v := .pointer (some ⟨gb, 5, none⟩)) (some 8) rfl rfl rfl (by kernel_rfl) (by kernel_rfl) (by kernel_rfl) (by kernel_rfl) (fun _ _ _ h => h) (Or.inl ⟨by rfl, fun u hu => by obtain ⟨b0, b1, b2, b3, b4, b5, b6, b7, b8, b9, b10, b11⟩ := hu; go_simp⟩) (uh HS0) ?_
 try simp only [Act.put, setX]
 refine till_take 5 (v := .slice (some a) n cl) (some 9) rfl rfl rfl (by kernel_rfl) (by kernel_rfl) (by kernel_rfl) (by kernel_rfl) (fun _ _ _ h => h) (Or.inl ⟨by rfl, fun u hu => by obtain ⟨b0, b1, b2, b3, b4, b5, b6, b7, b8, b9, b10, b11⟩ := hu; go_simp⟩) (uh HS0) ?_
 try simp only [Act.put, setX]
 refine till_take 6 (v := .pointer (some ⟨a.block, a.off + 5, none⟩)) (some 10) rfl rfl rfl (by kernel_rfl) (by kernel_rfl) (by kernel_rfl) (by kernel_rfl) (fun _ _ _ h => h) (Or.inl ⟨by rfl, fun u hu => by obtain ⟨b0, b1, b2, b3, b4, b5, b6, b7, b8, b9, b10, b11⟩ := hu; go_simp⟩) (uh HS0) ?_
 try simp only [Act.put, setX]
 refine till_take 7 (v := .pointer (some ⟨a.block, a.off + 5 + 2, none⟩)) (some 11) rfl rfl rfl (by kernel_rfl) (by kernel_rfl) (by kernel_rfl) (by kernel_rfl) (fun _ _ _ h => h) (Or.inl ⟨by rfl, fun u hu => by obtain ⟨b0, b1, b2, b3, b4, b5, b6, b7, b8, b9, b10, b11⟩ := hu; go_simp⟩) (uh HS0) ?_
 try simp only [Act.put, setX]
 refine till_take 8 (v := .string q2) (some 12) rfl rfl rfl (by kernel_rfl) (by kernel_rfl) (by kernel_rfl) (by kernel_rfl) (fun _ _ _ h => h) (Or.inl ⟨by rfl, fun u hu => by obtain ⟨b0, b1, b2, b3, b4, b5, b6, b7, b8, b9, b10, b11⟩ := hu; go_simp⟩) (uh HS0) ?_
 try simp only [Act.put, setX]
 refine till_take 9 (v := .pointer (some ⟨gb, 5, none⟩)) (some 13) rfl rfl rfl (by kernel_rfl) (by kernel_rfl) (by kernel_rfl) (by kernel_rfl) (fun _ _ _ h => h) (Or.inl ⟨by rfl, fun u hu => by obtain ⟨b0, b1, b2, b3, b4, b5, b6, b7, b8, b9, b10, b11⟩ := hu; go_simp⟩) (uh HS0) ?_
 try simp only [Act.put, setX]
 refine till_take 10 (v := .slice (some a) n cl) (some 14) rfl rfl rfl (by kernel_rfl) (by kernel_rfl) (by kernel_rfl) (by kernel_rfl) (fun _ _ _ h => h) (Or.inl ⟨by rfl, fun u hu => by obtain ⟨b0, b1, b2, b3, b4, b5, b6, b7, b8, b9, b10, b11⟩ := hu; go_simp⟩) (uh HS0) ?_
 try simp only [Act.put, setX]
 refine till_take 11 (v := .pointer (some ⟨a.block, a.off + 10, none⟩)) (some 15) rfl rfl rfl (by kernel_rfl) (by kernel_rfl) (by kernel_rfl) (by kernel_rfl) (fun _ _ _ h => h) (Or.inl ⟨by rfl, fun u hu => by obtain ⟨b0, b1, b2, b3, b4, b5, b6, b7, b8, b9, b10, b11⟩ := hu; go_simp⟩) (uh HS0) ?_
 try simp only [Act.put, setX]
 refine till_take 12 (v := .agg #[.int .i64 r0, .int .i64 r1, .string r2, .slice r3 r4 r5, .slice r6 r7 r8]) (some 16) rfl rfl rfl (by kernel_rfl) (by kernel_rfl) (by kernel_rfl) (by kernel_rfl) (fun _ _ _ h => h) (Or.inl ⟨by rfl, fun u hu => by obtain ⟨b0, b1, b2, b3, b4, b5, b6, b7, b8, b9, b10, b11⟩ := hu; go_simp⟩) (uh HS0) ?_
 try simp only [Act.put, setX]
 try rw [hW0]
 rw [hW0] at HS0
 clear hW0
 refine till_one 13 (by kernel_rfl) rfl (fun K hK => ?_)
 go_simp
 refine (uh CW W0 (uh HY0)).mono ?_
 rintro e W1 ⟨x', rfl, d1, q1'⟩
 obtain ⟨s0, s1, s2, s3, s4, s5, s6, s7, s8, rfl⟩ := shape9 q1'.1
 have HY1 : Hid (Below v2.heap.size v2 W1) := hide ((uh HY0).trans (d1.mono (uh HY0).size))
 have HQ1 : Hid (IsQ W1 (fun b => v2.heap.size ≤ b ∧ b < W1.heap.size) vv (.agg #[.int .i64 s0, .int .i64 s1, .string s2, .slice s3 s4 s5, .slice s6 s7 s8])) := hide (q1'.weak (fun b hb => ⟨Nat.le_trans (uh HY0).size hb.1, hb.2⟩))
 have HS1 : Hid (W1.cell? ⟨gb, 5, none⟩ = some (.slice (some a) n cl) ∧ W1.cell? a = some (.int .i64 p0) ∧ W1.cell? ⟨a.block, a.off + 1, none⟩ = some (.int .i64 p1) ∧ W1.cell? ⟨a.block, a.off + 2, none⟩ = some (.string p2) ∧ W1.cell? ⟨a.block, a.off + 3, none⟩ = some (.slice p3 p4 p5) ∧ W1.cell? ⟨a.block, a.off + 4, none⟩ = some (.slice p6 p7 p8) ∧ W1.cell? ⟨a.block, a.off + 5 + 2, none⟩ = some (.string q2) ∧ W1.cell? ⟨a.block, a.off + 10, none⟩ = some (.int .i64 r0) ∧ W1.cell? ⟨a.block, a.off + 10 + 1, none⟩ = some (.int .i64 r1) ∧ W1.cell? ⟨a.block, a.off + 10 + 2, none⟩ = some (.string r2) ∧ W1.cell? ⟨a.block, a.off + 10 + 3, none⟩ = some (.slice r3 r4 r5) ∧ W1.cell? ⟨a.block, a.off + 10 + 4, none⟩ = some (.slice r6 r7 r8)) := hide ⟨cell_later d1 ((uh HS0).1), cell_later d1 ((uh HS0).2.1), cell_later d1 ((uh HS0).2.2.1), cell_later d1 ((uh HS0).2.2.2.1), cell_later d1 ((uh HS0).2.2.2.2.1), cell_later d1 ((uh HS0).2.2.2.2.2.1), cell_later d1 ((uh HS0).2.2.2.2.2.2.1), cell_later d1 ((uh HS0).2.2.2.2.2.2.2.1), cell_later d1 ((uh HS0).2.2.2.2.2.2.2.2.1), cell_later d1 ((uh HS0).2.2.2.2.2.2.2.2.2.1), cell_later d1 ((uh HS0).2.2.2.2.2.2.2.2.2.2.1), cell_later d1 ((uh HS0).2.2.2.2.2.2.2.2.2.2.2)⟩
 clear d1 q1'
 go_wp2_with fail
 refine hK.out _ _ (Or.inr (uh HS1)) ?_
 clear hK K HS0 CW
 try simp only [Act.put, setX]
 refine till_take 14 (v := .agg #[.int .i64 s0, .int .i64 s1, .string s2, .slice s3 s4 s5, .slice s6 s7 s8]) (some 18) rfl rfl rfl (by kernel_rfl) (by kernel_rfl) (by kernel_rfl) (by kernel_rfl) (fun _ _ _ h => h) (Or.inl ⟨by rfl, fun u hu => by obtain ⟨b0, b1, b2, b3, b4, b5, b6, b7, b8, b9, b10, b11⟩ := hu; go_simp⟩) (uh HS1) ?_
 try simp only [Act.put, setX]
 refine till_take 15 (v := .int .i64 ec) (some 19) rfl rfl rfl (by kernel_rfl) (by kernel_rfl) (by kernel_rfl) (by kernel_rfl) (fun _ _ _ h => h) (Or.inl ⟨by rfl, fun u hu => by obtain ⟨b0, b1, b2, b3, b4, b5, b6, b7, b8, b9, b10, b11⟩ := hu; go_simp⟩) (uh HS1) ?_
 try simp only [Act.put, setX]
 refine till_one 16 (by kernel_rfl) rfl (fun K hK => ?_)
 go_simp
 refine (told_any vv s0 s1 s2 s3 s4 s5 s6 s7 s8 ec W1 (fun b => v2.heap.size ≤ b ∧ b < W1.heap.size) (uh HQ1) (fun b hb => hb.2)).mono ?_
 rintro e W2 ⟨y0, y1, y2, y3, y4, y5, y6, y7, y8, t, rfl, ⟨ht, q2'⟩, d2⟩
 have HF9 : Hid (IsQ W2 (fun b => v2.heap.size ≤ b ∧ b < W2.heap.size) R.1 (.agg #[.int .i64 y0, .int .i64 y1, .string y2, .slice y3 y4 y5, .slice y6 y7 y8]) ∧ t = R.2 ∧ Below v2.heap.size v2 W2) := hide ⟨by rw [uh HRR]; exact q2'.weak (fun b hb => ⟨hb.1.1, Nat.lt_of_lt_of_le hb.2 d2.size⟩), by rw [uh HRR]; exact ht, (uh HY1).trans (d2.mono (uh HY1).size)⟩
 have HS2 : Hid (W2.cell? ⟨gb, 5, none⟩ = some (.slice (some a) n cl) ∧ W2.cell? a = some (.int .i64 p0) ∧ W2.cell? ⟨a.block, a.off + 1, none⟩ = some (.int .i64 p1) ∧ W2.cell? ⟨a.block, a.off + 2, none⟩ = some (.string p2) ∧ W2.cell? ⟨a.block, a.off + 3, none⟩ = some (.slice p3 p4 p5) ∧ W2.cell? ⟨a.block, a.off + 4, none⟩ = some (.slice p6 p7 p8) ∧ W2.cell? ⟨a.block, a.off + 5 + 2, none⟩ = some (.string q2) ∧ W2.cell? ⟨a.block, a.off + 10, none⟩ = some (.int .i64 r0) ∧ W2.cell? ⟨a.block, a.off + 10 + 1, none⟩ = some (.int .i64 r1) ∧ W2.cell? ⟨a.block, a.off + 10 + 2, none⟩ = some (.string r2) ∧ W2.cell? ⟨a.block, a.off + 10 + 3, none⟩ = some (.slice r3 r4 r5) ∧ W2.cell? ⟨a.block, a.off + 10 + 4, none⟩ = some (.slice r6 r7 r8)) := hide ⟨cell_later d2 ((uh HS1).1), cell_later d2 ((uh HS1).2.1), cell_later d2 ((uh HS1).2.2.1), cell_later d2 ((uh HS1).2.2.2.1), cell_later d2 ((uh HS1).2.2.2.2.1), cell_later d2 ((uh HS1).2.2.2.2.2.1), cell_later d2 ((uh HS1).2.2.2.2.2.2.1), cell_later d2 ((uh HS1).2.2.2.2.2.2.2.1), cell_later d2 ((uh HS1).2.2.2.2.2.2.2.2.1), cell_later d2 ((uh HS1).2.2.2.2.2.2.2.2.2.1), cell_later d2 ((uh HS1).2.2.2.2.2.2.2.2.2.2.1), cell_later d2 ((uh HS1).2.2.2.2.2.2.2.2.2.2.2)⟩
 clear d2 q2' ht
 go_wp2_with fail
 refine hK.out _ _ (Or.inr (uh HS2)) ?_
 clear hK K HS1 HY1 HQ1
 try simp only [Act.put, setX]
 refine till_take 17 (v := .agg #[.int .i64 y0, .int .i64 y1, .string y2, .slice y3 y4 y5, .slice y6 y7 y8]) (some 21) rfl rfl rfl (by kernel_rfl) (by kernel_rfl) (by kernel_rfl) (by kernel_rfl) (fun _ _ _ h => h) (Or.inl ⟨by rfl, fun u hu => by obtain ⟨b0, b1, b2, b3, b4, b5, b6, b7, b8, b9, b10, b11⟩ := hu; go_simp⟩) (uh HS2) ?_
 try simp only [Act.put, setX]
 refine till_take 18 (v := .int .i64 t) (some 22) rfl rfl rfl (by kernel_rfl) (by kernel_rfl) (by kernel_rfl) (by kernel_rfl) (fun _ _ _ h => h) (Or.inl ⟨by rfl, fun u hu => by obtain ⟨b0, b1, b2, b3, b4, b5, b6, b7, b8, b9, b10, b11⟩ := hu; go_simp⟩) (uh HS2) ?_
 try simp only [Act.put, setX]
 have ER : Hid (W2.heap[gr]? = some (.cells #[.int .i64 0, .int .i64 0, .string ⟨#[]⟩, .slice none 0 0, .slice none 0 0] 25 (0, 0))) := hide (((uh HF9).2.2.block gr (uh HM).2.2.2.2).trans (uh HM).2.2.1)
 obtain ⟨r0z, r1z, r2z, r3z, r4z⟩ := block5 (uh ER)
 obtain ⟨fz0, fz1, fz2, fz3, fz4⟩ := fr5 (uh ER)
 obtain ⟨W3, hW3⟩ : ∃ W, (((((W2.setCell ⟨gr, 0, none⟩ (.int .i64 y0)).setCell ⟨gr, 1, none⟩ (.int .i64 y1)).setCell ⟨gr, 2, none⟩ (.string y2)).setCell ⟨gr, 3, none⟩ (.slice y3 y4 y5)).setCell ⟨gr, 4, none⟩ (.slice y6 y7 y8)) = W := ⟨_, rfl⟩
 have HS3 : Hid (W3.cell? ⟨gb, 5, none⟩ = some (.slice (some a) n cl) ∧ W3.cell? a = some (.int .i64 p0) ∧ W3.cell? ⟨a.block, a.off + 1, none⟩ = some (.int .i64 p1) ∧ W3.cell? ⟨a.block, a.off + 2, none⟩ = some (.string p2) ∧ W3.cell? ⟨a.block, a.off + 3, none⟩ = some (.slice p3 p4 p5) ∧ W3.cell? ⟨a.block, a.off + 4, none⟩ = some (.slice p6 p7 p8) ∧ W3.cell? ⟨a.block, a.off + 5 + 2, none⟩ = some (.string q2) ∧ W3.cell? ⟨a.block, a.off + 10, none⟩ = some (.int .i64 r0) ∧ W3.cell? ⟨a.block, a.off + 10 + 1, none⟩ = some (.int .i64 r1) ∧ W3.cell? ⟨a.block, a.off + 10 + 2, none⟩ = some (.string r2) ∧ W3.cell? ⟨a.block, a.off + 10 + 3, none⟩ = some (.slice r3 r4 r5) ∧ W3.cell? ⟨a.block, a.off + 10 + 4, none⟩ = some (.slice r6 r7 r8)) := hide (by
  have hh : ∀ (p : Addr), p.block ≠ gr → W3.cell? p = W2.cell? p := fun p hp => World.cell?_of_block (by rw [← hW3, heap_setCell_other _ _ _ _ hp, heap_setCell_other _ _ _ _ hp, heap_setCell_other _ _ _ _ hp, heap_setCell_other _ _ _ _ hp, heap_setCell_other _ _ _ _ hp])
  exact ⟨(hh ⟨gb, 5, none⟩ hne0).trans ((uh HS2).1), (hh a hne1).trans ((uh HS2).2.1), (hh ⟨a.block, a.off + 1, none⟩ hne1).trans ((uh HS2).2.2.1), (hh ⟨a.block, a.off + 2, none⟩ hne1).trans ((uh HS2).2.2.2.1), (hh ⟨a.block, a.off + 3, none⟩ hne1).trans ((uh HS2).2.2.2.2.1), (hh ⟨a.block, a.off + 4, none⟩ hne1).trans ((uh HS2).2.2.2.2.2.1), (hh ⟨a.block, a.off + 5 + 2, none⟩ hne1).trans ((uh HS2).2.2.2.2.2.2.1), (hh ⟨a.block, a.off + 10, none⟩ hne1).trans ((uh HS2).2.2.2.2.2.2.2.1), (hh ⟨a.block, a.off + 10 + 1, none⟩ hne1).trans ((uh HS2).2.2.2.2.2.2.2.2.1), (hh ⟨a.block, a.off + 10 + 2, none⟩ hne1).trans ((uh HS2).2.2.2.2.2.2.2.2.2.1), (hh ⟨a.block, a.off + 10 + 3, none⟩ hne1).trans ((uh HS2).2.2.2.2.2.2.2.2.2.2.1), (hh ⟨a.block, a.off + 10 + 4, none⟩ hne1).trans ((uh HS2).2.2.2.2.2.2.2.2.2.2.2)⟩)
 refine till_one 19 (by kernel_rfl) rfl (fun K hK => ?_)
 go_simp
 try rw [hW3]
 refine hK.out _ _ (Or.inr (uh HS3)) ?_
 clear hK K HS2 r0z r1z r2z r3z r4z fz0 fz1 fz2 fz3 fz4
 try simp only [Act.put, setX]
 refine till_one 20 (by kernel_rfl) rfl (fun K hK => ?_)
 go_simp
 refine hK.out _ _ (Or.inl (by first | rfl | trivial)) ?_
 clear hK K HS3
 try simp only [Act.put, setX]
 refine till_done (by kernel_rfl) ?_ _
 rw [← hW3]
 go_wp2_with fail
 (try simp only [Exit.inBlock, Exit.then])
 refine bodyPost_ret (ret_ct rfl _ _ gr #[.int .i64 y0, .int .i64 y1, .string y2, .slice y3 y4 y5, .slice y6 y7 y8] _ _ rfl (set5P (uh ER) _ _ _ _ _) Tryz.underlying25 rfl size_vl) rfl ?_
 exact op_fin (uh HM).1 (uh HM).2.2.2.1 (uh HM).2.2.2.2 (uh HF9).2.2 (uh HF9).1 (uh HF9).2.1
theorem without_op (e0 e1 : Int) (e2 : ByteArray) (e3 : Option Addr) (e4 e5 : Nat) (e6 : Option Addr) (e7 e8 : Nat) (a : Addr) (n cl : Nat) (p0 p1 : Int) (p2 : ByteArray) (p3 : Option Addr) (p4 p5 : Nat) (p6 : Option Addr) (p7 p8 : Nat) (q0 q1 : Int) (q2 : ByteArray) (q3 : Option Addr) (q4 q5 : Nat) (q6 : Option Addr) (q7 q8 : Nat) (x y : Vl) (B : Nat) (w : World) (hn : 2 ≤ n) (ha : a.block < w.heap.size) (h00 : w.cell? a = some (.int .i64 p0)) (h01 : w.cell? ⟨a.block, a.off + 1, none⟩ = some (.int .i64 p1)) (h02 : w.cell? ⟨a.block, a.off + 2, none⟩ = some (.string p2)) (h03 : w.cell? ⟨a.block, a.off + 3, none⟩ = some (.slice p3 p4 p5)) (h04 : w.cell? ⟨a.block, a.off + 4, none⟩ = some (.slice p6 p7 p8)) (h10 : w.cell? ⟨a.block, a.off + 5, none⟩ = some (.int .i64 q0)) (h11 : w.cell? ⟨a.block, a.off + 5 + 1, none⟩ = some (.int .i64 q1)) (h12 : w.cell? ⟨a.block, a.off + 5 + 2, none⟩ = some (.string q2)) (h13 : w.cell? ⟨a.block, a.off + 5 + 3, none⟩ = some (.slice q3 q4 q5)) (h14 : w.cell? ⟨a.block, a.off + 5 + 4, none⟩ = some (.slice q6 q7 q8)) (hx : IsV w B x (.agg #[.int .i64 p0, .int .i64 p1, .string p2, .slice p3 p4 p5, .slice p6 p7 p8])) (hy : IsV w B y (.agg #[.int .i64 q0, .int .i64 q1, .string q2, .slice q3 q4 q5, .slice q6 q7 q8])) (hBs : B ≤ w.heap.size) :
  Calls Tryz.prog 70 #[.agg #[.int .i64 e0, .int .i64 e1, .string e2, .slice e3 e4 e5, .slice e6 e7 e8, .slice (some a) n cl]] w fun e w' => OpPost w (toldV (woV x y.s) (withoutC x y.s)) e w' := by
 obtain ⟨gb, hgb⟩ : ∃ gb, w.heap.size = gb := ⟨_, rfl⟩
 obtain ⟨v1, hv1⟩ : ∃ v1, w.alloc (.cells #[.int .i64 e0, .int .i64 e1, .string e2, .slice e3 e4 e5, .slice e6 e7 e8, .slice (some a) n cl] 50) = v1 := ⟨_, rfl⟩
 obtain ⟨gr, hgr⟩ : ∃ gr, v1.heap.size = gr := ⟨_, rfl⟩
 obtain ⟨v2, hv2⟩ : ∃ v2, v1.alloc (.cells #[.int .i64 0, .int .i64 0, .string ⟨#[]⟩, .slice none 0 0, .slice none 0 0] 25) = v2 := ⟨_, rfl⟩
 have n1 : v1.heap[gb]? = some (.cells #[.int .i64 e0, .int .i64 e1, .string e2, .slice e3 e4 e5, .slice e6 e7 e8, .slice (some a) n cl] 50 (0, 0)) := by rw [← hv1, ← hgb]; exact heap_alloc_new w _
 have n2 : v2.heap[gr]? = some (.cells #[.int .i64 0, .int .i64 0, .string ⟨#[]⟩, .slice none 0 0, .slice none 0 0] 25 (0, 0)) := by rw [← hv2, ← hgr]; exact heap_alloc_new v1 _
 have b1 : Below w.heap.size w v1 := by rw [← hv1]; exact (Below.refl _ _).alloc (Nat.le_refl _) _
 have b2 : Below v1.heap.size v1 v2 := by rw [← hv2]; exact (Below.refl _ _).alloc (Nat.le_refl _) _
 have s1 : v1.heap.size = w.heap.size + 1 := by rw [← hv1]; simp
 have HM : Hid (Below w.heap.size w v2 ∧ v2.heap[gb]? = some (.cells #[.int .i64 e0, .int .i64 e1, .string e2, .slice e3 e4 e5, .slice e6 e7 e8, .slice (some a) n cl] 50 (0, 0)) ∧ v2.heap[gr]? = some (.cells #[.int .i64 0, .int .i64 0, .string ⟨#[]⟩, .slice none 0 0, .slice none 0 0] 25 (0, 0)) ∧ w.heap.size ≤ gr ∧ gr < v2.heap.size) := hide ⟨b1.trans (b2.mono b1.size), (b2.block gb (by omega)).trans n1, n2, by omega, (Array.getElem?_eq_some_iff.1 n2).1⟩
 obtain ⟨t0, t1, t2, t3, t4, t5⟩ := block6 (uh HM).2.1
 have hA00 : v2.cell? a = some (.int .i64 p0) := ((uh HM).1.cell (p := a) ha).trans h00
 have hA01 : v2.cell? ⟨a.block, a.off + 1, none⟩ = some (.int .i64 p1) := ((uh HM).1.cell (p := ⟨a.block, a.off + 1, none⟩) ha).trans h01
 have hA02 : v2.cell? ⟨a.block, a.off + 2, none⟩ = some (.string p2) := ((uh HM).1.cell (p := ⟨a.block, a.off + 2, none⟩) ha).trans h02
 have hA03 : v2.cell? ⟨a.block, a.off + 3, none⟩ = some (.slice p3 p4 p5) := ((uh HM).1.cell (p := ⟨a.block, a.off + 3, none⟩) ha).trans h03
 have hA04 : v2.cell? ⟨a.block, a.off + 4, none⟩ = some (.slice p6 p7 p8) := ((uh HM).1.cell (p := ⟨a.block, a.off + 4, none⟩) ha).trans h04
 have hA10 : v2.cell? ⟨a.block, a.off + 5, none⟩ = some (.int .i64 q0) := ((uh HM).1.cell (p := ⟨a.block, a.off + 5, none⟩) ha).trans h10
 have hA11 : v2.cell? ⟨a.block, a.off + 5 + 1, none⟩ = some (.int .i64 q1) := ((uh HM).1.cell (p := ⟨a.block, a.off + 5 + 1, none⟩) ha).trans h11
 have hA12 : v2.cell? ⟨a.block, a.off + 5 + 2, none⟩ = some (.string q2) := ((uh HM).1.cell (p := ⟨a.block, a.off + 5 + 2, none⟩) ha).trans h12
 have hA13 : v2.cell? ⟨a.block, a.off + 5 + 3, none⟩ = some (.slice q3 q4 q5) := ((uh HM).1.cell (p := ⟨a.block, a.off + 5 + 3, none⟩) ha).trans h13
 have hA14 : v2.cell? ⟨a.block, a.off + 5 + 4, none⟩ = some (.slice q6 q7 q8) := ((uh HM).1.cell (p := ⟨a.block, a.off + 5 + 4, none⟩) ha).trans h14
 have hlt0 : gb < v2.heap.size := (Array.getElem?_eq_some_iff.1 (uh HM).2.1).1
 have hlt1 : a.block < v2.heap.size := Nat.lt_of_lt_of_le ha (uh HM).1.size
 have hne0 : gb ≠ gr := by omega
 have hne1 : a.block ≠ gr := by omega
 have hl0 : (0 : Int) < (n : Int) := by omega
 have hl1 : (1 : Int) < (n : Int) := by omega
 have hky : q2 = y.s := by
  obtain ⟨k1, n1, s1, l1, ks1⟩ := y
  exact (IsP.at hy).2.2.1
 rw [← hky]
 obtain ⟨ec, hec⟩ : ∃ ec, withoutC x q2 = ec := ⟨_, rfl⟩
 obtain ⟨vv, hvv⟩ : ∃ vv, woV x q2 = vv := ⟨_, rfl⟩
 rw [hec, hvv]
 obtain ⟨R, hR⟩ : ∃ R, toldV vv ec = R := ⟨_, rfl⟩
 rw [hR]
 have HRR : Hid (R = toldV vv ec) := hide hR.symm
 have CW : Hid (∀ u, Below v2.heap.size v2 u → Calls Tryz.prog 112 #[.agg #[.int .i64 p0, .int .i64 p1, .string p2, .slice p3 p4 p5, .slice p6 p7 p8], .string q2] u fun e w' => ∃ x', e = .returned (.tuple #[x', .int .i64 ec]) ∧ Below u.heap.size u w' ∧ IsQ w' (fun b => u.heap.size ≤ b ∧ b < w'.heap.size) vv x') := hide (fun u hu => by
  have hwu := (uh HM).1.trans (hu.mono (uh HM).1.size)
  have := withoutQ_any x _ B q2 u (IsV.mono (hwu.mono hBs) hx) (Nat.le_trans hBs hwu.size)
  rw [hec, hvv] at this
  exact this)
 clear n1 n2 b1 b2 s1 h00 h01 h02 h03 h04 h10 h11 h12 h13 h14 hx hy hBs hky hec hvv hR
 obtain ⟨W0, hW0⟩ : ∃ W0, v2.drew = W0 := ⟨_, rfl⟩
 have HY0 : Hid (Below v2.heap.size v2 W0) := hide (by rw [← hW0]; exact below_drew_of' (Below.refl _ _))
 go_enter Tryz.func70, Tryz.ntmps70
 go_upto_region 1 with fail
 have HS0 : Hid (v2.drew.cell? ⟨gb, 5, none⟩ = some (.slice (some a) n cl) ∧ v2.drew.cell? a = some (.int .i64 p0) ∧ v2.drew.cell? ⟨a.block, a.off + 1, none⟩ = some (.int .i64 p1) ∧ v2.drew.cell? ⟨a.block, a.off + 2, none⟩ = some (.string p2) ∧ v2.drew.cell? ⟨a.block, a.off + 3, none⟩ = some (.slice p3 p4 p5) ∧ v2.drew.cell? ⟨a.block, a.off + 4, none⟩ = some (.slice p6 p7 p8) ∧ v2.drew.cell? ⟨a.block, a.off + 5 + 2, none⟩ = some (.string q2)) := hide ⟨t5, hA00, hA01, hA02, hA03, hA04, hA12⟩
 refine till_begin (S := fun w' => w'.cell? ⟨gb, 5, none⟩ = some (.slice (some a) n cl) ∧ w'.cell? a = some (.int .i64 p0) ∧ w'.cell? ⟨a.block, a.off + 1, none⟩ = some (.int .i64 p1) ∧ w'.cell? ⟨a.block, a.off + 2, none⟩ = some (.string p2) ∧ w'.cell? ⟨a.block, a.off + 3, none⟩ = some (.slice p3 p4 p5) ∧ w'.cell? ⟨a.block, a.off + 4, none⟩ = some (.slice p6 p7 p8) ∧ w'.cell? ⟨a.block, a.off + 5 + 2, none⟩ = some (.string q2)) 16 (by kernel_rfl) ?_
 refine till_take 0 (v := .pointer (some ⟨gb, 5, none⟩)) (some 4) rfl rfl rfl (by kernel_rfl) (by kernel_rfl) (by kernel_rfl) (by kernel_rfl) (fun _ _ _ h => h) (Or.inl ⟨by rfl, fun u hu => by obtain ⟨b0, b1, b2, b3, b4, b5, b6⟩ := hu; go_simp⟩) (uh HS0) ?_
 try simp only [Act.put, setX]
 refine till_take 1 (v := .slice (some a) n cl) (some 5) rfl rfl rfl (by kernel_rfl) (by kernel_rfl) (by kernel_rfl) (by kernel_rfl) (fun _ _ _ h => h) (Or.inl ⟨by rfl, fun u hu => by obtain ⟨b0, b1, b2, b3, b4, b5, b6⟩ := hu; go_simp⟩) (uh HS0) ?_
 try simp only [Act.put, setX]
 refine till_take 2 (v := .pointer (some a)) (some 6) rfl rfl rfl (by kernel_rfl) (by kernel_rfl) (by kernel_rfl) (by kernel_rfl) (fun _ _ _ h => h) (Or.inl ⟨by rfl, fun u hu => by obtain ⟨b0, b1, b2, b3, b4, b5, b6⟩ := hu; go_simp; intro hz; omega⟩) (uh HS0) ?_
 try simp only [Act.put, setX]
 refine till_take 3 (v := .agg #[.int .i64 p0, .int .i64 p1, .string p2, .slice p3 p4 p5, .slice p6 p7 p8]) (some 7) rfl rfl rfl (by kernel_rfl) (by kernel_rfl) (by kernel_rfl) (by kernel_rfl) (fun _ _ _ h => h) (Or.inl ⟨by rfl, fun u hu => by obtain ⟨b0, b1, b2, b3, b4, b5, b6⟩ := hu; go_simp⟩) (uh HS0) ?_
 try simp only [Act.put, setX]
 refine till_take 4 (v := .pointer (some ⟨gb, 5, none⟩)) (some 8) rfl rfl rfl (by kernel_rfl) (by kernel_rfl) (by kernel_rfl) (by kernel_rfl) (fun _ _ _ h => h) (Or.inl ⟨by rfl, fun u hu => by obtain ⟨b0, b1, b2, b3, b4, b5, b6⟩ := hu; go_simp⟩) (uh HS0) ?_
 try simp only [Act.put, setX]
 refine till_take 5 (v := .slice (some a) n cl) (some 9) rfl rfl rfl (by kernel_rfl) (by kernel_rfl) (by kernel_rfl) (by kernel_rfl) (fun _ _ _ h => h) (Or.inl ⟨by rfl, fun u hu => by obtain ⟨b0, b1, b2, b3, b4, b5, b6⟩ := hu; go_simp⟩) (uh HS0) ?_
 try simp only [Act.put, setX]
 refine till_take 6 (v := .pointer (some ⟨a.block, a.off + 5, none⟩)) (some 10) rfl rfl rfl (by kernel_rfl) (by kernel_rfl) (by kernel_rfl) (by kernel_rfl) (fun _ _ _ h => h) (Or.inl ⟨by rfl, fun u hu => by obtain ⟨b0, b1, b2, b3, b4, b5, b6⟩ := hu; go_simp⟩) (uh HS0) ?_
 try simp only [Act.put, setX]
 refine till_take 7 (v := .pointer (some ⟨a.block, a.off + 5 + 2, none⟩)) (some 11) rfl rfl rfl (by kernel_rfl) (by kernel_rfl) (by kernel_rfl) (by kernel_rfl) (fun _ _ _ h => h) (Or.inl ⟨by rfl, fun u hu => by obtain ⟨b0, b1, b2, b3, b4, b5, b6⟩ := hu; go_simp⟩) (uh HS0) ?_
 try simp only [Act.put, setX]
 refine till_take 8 (v := .string q2) (some 12) rfl rfl rfl (by kernel_rfl) (by kernel_rfl) (by kernel_rfl) (by kernel_rfl) (fun _ _ _ h => h) (Or.inl ⟨by rfl, fun u hu => by obtain ⟨b0, b1, b2, b3, b4, b5, b6⟩ := hu; go_simp⟩) (uh HS0) ?_
 try simp only [Act.put, setX]
 try rw [hW0]
 rw [hW0] at HS0
 clear hW0
 refine till_one 9 (by kernel_rfl) rfl (fun K hK => ?_)
 go_simp
 refine (uh CW W0 (uh HY0)).mono ?_
 rintro e W1 ⟨x', rfl, d1, q1'⟩
 obtain ⟨s0, s1, s2, s3, s4, s5, s6, s7, s8, rfl⟩ := shape9 q1'.1
 have HY1 : Hid (Below v2.heap.size v2 W1) := hide ((uh HY0).trans (d1.mono (uh HY0).size))
 have HQ1 : Hid (IsQ W1 (fun b => v2.heap.size ≤ b ∧ b < W1.heap.size) vv (.agg #[.int .i64 s0, .int .i64 s1, .string s2, .slice s3 s4 s5, .slice s6 s7 s8])) := hide (q1'.weak (fun b hb => ⟨Nat.le_trans (uh HY0).size hb.1, hb.2⟩))
 have HS1 : Hid (W1.cell? ⟨gb, 5, none⟩ = some (.slice (some a) n cl) ∧ W1.cell? a = some (.int .i64 p0) ∧ W1.cell? ⟨a.block, a.off + 1, none⟩ = some (.int .i64 p1) ∧ W1.cell? ⟨a.block, a.off + 2, none⟩ = some (.string p2) ∧ W1.cell? ⟨a.block, a.off + 3, none⟩ = some (.slice p3 p4 p5) ∧ W1.cell? ⟨a.block, a.off + 4, none⟩ = some (.slice p6 p7 p8) ∧ W1.cell? ⟨a.block, a.off + 5 + 2, none⟩ = some (.string q2)) := hide ⟨cell_later d1 ((uh HS0).1), cell_later d1 ((uh HS0).2.1), cell_later d1 ((uh HS0).2.2.1), cell_later d1 ((uh HS0).2.2.2.1), cell_later d1 ((uh HS0).2.2.2.2.1), cell_later d1 ((uh HS0).2.2.2.2.2.1), cell_later d1 ((uh HS0).2.2.2.2.2.2)⟩
 clear d1 q1'
 go_wp2_with fail
 refine hK.out _ _ (Or.inr (uh HS1)) ?_
 clear hK K HS0 CW
 try simp only [Act.put, setX]
 refine till_take 10 (v := .agg #[.int .i64 s0, .int .i64 s1, .string s2, .slice s3 s4 s5, .slice s6 s7 s8]) (some 14) rfl rfl rfl (by kernel_rfl) (by kernel_rfl) (by kernel_rfl) (by kernel_rfl) (fun _ _ _ h => h) (Or.inl ⟨by rfl, fun u hu => by obtain ⟨b0, b1, b2, b3, b4, b5, b6⟩ := hu; go_simp⟩) (uh HS1) ?_
 try simp only [Act.put, setX]
 refine till_take 11 (v := .int .i64 ec) (some 15) rfl rfl rfl (by kernel_rfl) (by kernel_rfl) (by kernel_rfl) (by kernel_rfl) (fun _ _ _ h => h) (Or.inl ⟨by rfl, fun u hu => by obtain ⟨b0, b1, b2, b3, b4, b5, b6⟩ := hu; go_simp⟩) (uh HS1) ?_
 try simp only [Act.put, setX]
 refine till_one 12 (by kernel_rfl) rfl (fun K hK => ?_)
 go_simp
 refine (told_any vv s0 s1 s2 s3 s4 s5 s6 s7 s8 ec W1 (fun b => v2.heap.size ≤ b ∧ b < W1.heap.size) (uh HQ1) (fun b hb => hb.2)).mono ?_
 rintro e W2 ⟨y0, y1, y2, y3, y4, y5, y6, y7, y8, t, rfl, ⟨ht, q2'⟩, d2⟩
 have HF9 : Hid (IsQ W2 (fun b => v2.heap.size ≤ b ∧ b < W2.heap.size) R.1 (.agg #[.int .i64 y0, .int .i64 y1, .string y2, .slice y3 y4 y5, .slice y6 y7 y8]) ∧ t = R.2 ∧ Below v2.heap.size v2 W2) := hide ⟨by rw [uh HRR]; exact q2'.weak (fun b hb => ⟨hb.1.1, Nat.lt_of_lt_of_le hb.2 d2.size⟩), by rw [uh HRR]; exact ht, (uh HY1).trans (d2.mono (uh HY1).size)⟩
 have HS2 : Hid (W2.cell? ⟨gb, 5, none⟩ = some (.slice (some a) n cl) ∧ W2.cell? a = some (.int .i64 p0) ∧ W2.cell? ⟨a.block, a.off + 1, none⟩ = some (.int .i64 p1) ∧ W2.cell? ⟨a.block, a.off + 2, none⟩ = some (.string p2) ∧ W2.cell? ⟨a.block, a.off + 3, none⟩ = some (.slice p3 p4 p5) ∧ W2.cell? ⟨a.block, a.off + 4, none⟩ = some (.slice p6 p7 p8) ∧ W2.cell? ⟨a.block, a.off + 5 + 2, none⟩ = some (.string q2)) := hide ⟨cell_later d2 ((uh HS1).1), cell_later d2 ((uh HS1).2.1), cell_later d2 ((uh HS1).2.2.1), cell_later d2 ((uh HS1).2.2.2.1), cell_later d2 ((uh HS1).2.2.2.2.1), cell_later d2 ((uh HS1).2.2.2.2.2.1), cell_later d2 ((uh HS1).2.2.2.2.2.2)⟩
 clear d2 q2' ht
 go_wp2_with fail
 refine hK.out _ _ (Or.inr (uh HS2)) ?_
 clear hK K HS1 HY1 HQ1
 try simp only [Act.put, setX]
 refine till_take 13 (v := .agg #[.int .i64 y0, .int .i64 y1, .string y2, .slice y3 y4 y5, .slice y6 y7 y8]) (some 17) rfl rfl rfl (by kernel_rfl) (by kernel_rfl) (by kernel_rfl) (by kernel_rfl) (fun _ _ _ h => h) (Or.inl ⟨by rfl, fun u hu => by obtain ⟨b0, b1, b2, b3, b4, b5, b6⟩ := hu; go_simp⟩) (uh HS2) ?_
 try simp only [Act.put, setX]
 refine till_take 14 (v := .int .i64 t) (some 18) rfl rfl rfl (by kernel_rfl) (by kernel_rfl) (by kernel_rfl) (by kernel_rfl) (fun _ _ _ h => h) (Or.inl ⟨by rfl, fun u hu => by obtain ⟨b0, b1, b2, b3, b4, b5, b6⟩ := hu; go_simp⟩) (uh HS2) ?_
 try simp only [Act.put, setX]
 have ER : Hid (W2.heap[gr]? = some (.cells #[.int .i64 0, .int .i64 0, .string ⟨#[]⟩, .slice none 0 0, .slice none 0 0] 25 (0, 0))) := hide (((uh HF9).2.2.block gr (uh HM).2.2.2.2).trans (uh HM).2.2.1)
 obtain ⟨r0z, r1z, r2z, r3z, r4z⟩ := block5 (uh ER)
 obtain ⟨fz0, fz1, fz2, fz3, fz4⟩ := fr5 (uh ER)
 obtain ⟨W3, hW3⟩ : ∃ W, (((((W2.setCell ⟨gr, 0, none⟩ (.int .i64 y0)).setCell ⟨gr, 1, none⟩ (.int .i64 y1)).setCell ⟨gr, 2, none⟩ (.string y2)).setCell ⟨gr, 3, none⟩ (.slice y3 y4 y5)).setCell ⟨gr, 4, none⟩ (.slice y6 y7 y8)) = W := ⟨_, rfl⟩
 have HS3 : Hid (W3.cell? ⟨gb, 5, none⟩ = some (.slice (some a) n cl) ∧ W3.cell? a = some (.int .i64 p0) ∧ W3.cell? ⟨a.block, a.off + 1, none⟩ = some (.int .i64 p1) ∧ W3.cell? ⟨a.block, a.off + 2, none⟩ = some (.string p2) ∧ W3.cell? ⟨a.block, a.off + 3, none⟩ = some (.slice p3 p4 p5) ∧ W3.cell? ⟨a.block, a.off + 4, none⟩ = some (.slice p6 p7 p8) ∧ W3.cell? ⟨a.block, a.off + 5 + 2, none⟩ = some (.string q2)) := hide (by
  have hh : ∀ (p : Addr), p.block ≠ gr → W3.cell? p = W2.cell? p := fun p hp => World.cell?_of_block (by rw [← hW3, heap_setCell_other _ _ _ _ hp, heap_setCell_other _ _ _ _ hp, heap_setCell_other _ _ _ _ hp, heap_setCell_other _ _ _ _ hp, heap_setCell_other _ _ _ _ hp])
  exact ⟨(hh ⟨gb, 5, none⟩ hne0).trans ((uh HS2).1), (hh a hne1).trans ((uh HS2).2.1), (hh ⟨a.block, a.off + 1, none⟩ hne1).trans ((uh HS2).2.2.1), (hh ⟨a.block, a.off + 2, none⟩ hne1).trans ((uh HS2).2.2.2.1), (hh ⟨a.block, a.off + 3, none⟩ hne1).trans ((uh HS2).2.2.2.2.1), (hh ⟨a.block, a.off + 4, none⟩ hne1).trans ((uh HS2).2.2.2.2.2.1), (hh ⟨a.block, a.off + 5 + 2, none⟩ hne1).trans ((uh HS2).2.2.2.2.2.2)⟩)
 refine till_one 15 (by kernel_rfl) rfl (fun K hK => ?_)
 go_simp
 try rw [hW3]
 refine hK.out _ _ (Or.inr (uh HS3)) ?_
 clear hK K HS2 r0z r1z r2z r3z r4z fz0 fz1 fz2 fz3 fz4
 try simp only [Act.put, setX]
 refine till_one 16 (by kernel_rfl) rfl (fun K hK => ?_)
 go_simp
 refine hK.out _ _ (Or.inl (by first | rfl | trivial)) ?_
 clear hK K HS3
 try simp only [Act.put, setX]
 refine till_done (by kernel_rfl) ?_ _
 rw [← hW3]
 go_wp2_with fail
 (try simp only [Exit.inBlock, Exit.then])
 refine bodyPost_ret (ret_ct rfl _ _ gr #[.int .i64 y0, .int .i64 y1, .string y2, .slice y3 y4 y5, .slice y6 y7 y8] _ _ rfl (set5P (uh ER) _ _ _ _ _) Tryz.underlying25 rfl size_vl) rfl ?_
 exact op_fin (uh HM).1 (uh HM).2.2.2.1 (uh HM).2.2.2.2 (uh HF9).2.2 (uh HF9).1 (uh HF9).2.1
end Go.Proofs.YtgkmdjmigehmeaaGreatDoor

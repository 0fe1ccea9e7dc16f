/-
  change (prim); no conditions but the form's own reach.
-/
import Derived.Test.YtgkmdjmigehmeaaGreatDoorR42
namespace Go.Proofs.YtgkmdjmigehmeaaGreatDoor
set_option linter.unusedVariables false
set_option linter.unusedSimpArgs false
set_option maxRecDepth 100000
set_option maxHeartbeats 16000000
open Go.RowKit Go.Shelf
def changeV (x : Vl) (i : Int) (z : Vl) : Vl × Int := if (decide (0 ≤ i) && decide (i < cntO x)) = true then szV (.mk 4 0 ⟨#[]⟩ (x.l.set i.toNat z) []) else (vlz, 2)
theorem own_setV {w : World} {base : Nat} {e : TypeId} {size b n cap j : Nat} {xs : List Value} (h : w.ownsRow base e size (.slice (some ⟨b, 0, none⟩) n cap) n xs) (v : Value) : (w.setCell ⟨b, j, none⟩ v).ownsRow base e size (.slice (some ⟨b, 0, none⟩) n cap) n (xs.set j v) := by
 rcases h.2 with ⟨e1, _⟩ | ⟨g, cap', cur, e1, hbs, hg, h1, h2, h3, h4⟩
 ·cases e1
 ·cases e1
  refine ⟨by rw [List.length_set]; exact h.1, .inr ⟨b, cap, _, rfl, hbs, heap_setCell_same w b j _ e v hg, h1, h2, by simpa using h3, ?_⟩⟩
  rw [Array.toList_setIfInBounds, List.take_set, h4]
theorem flat5_set : ∀ (C : List (List Value)), (∀ c ∈ C, c.length = 5) → ∀ (i : Nat), i < C.length → ∀ x0 x1 x2 x3 x4, (C.set i [x0, x1, x2, x3, x4]).flatten = (((((C.flatten).set (i * 5) x0).set (i * 5 + 1) x1).set (i * 5 + 2) x2).set (i * 5 + 3) x3).set (i * 5 + 4) x4
 | [], _, i, h, _, _, _, _, _ => by simp at h
 | c :: r, h5, 0, h, x0, x1, x2, x3, x4 => by
  have hc := h5 c List.mem_cons_self
  match c, hc with
  | [a0, a1, a2, a3, a4], _ => simp
 | c :: r, h5, i + 1, h, x0, x1, x2, x3, x4 => by
  have hc := h5 c List.mem_cons_self
  have ih := flat5_set r (fun x hx => h5 x (List.mem_cons_of_mem _ hx)) i (by simpa using h) x0 x1 x2 x3 x4
  match c, hc with
  | [a0, a1, a2, a3, a4], _ =>
   rw [List.set_cons_succ, List.flatten_cons, List.flatten_cons, ih, show (i + 1) * 5 = i * 5 + 5 by omega]
   simp
theorem own_set5 {w w2 : World} {base g n cap i : Nat} {C : List (List Value)} {x0 x1 x2 x3 x4 : Value} {v2 : World} (h : w.ownsRow base 25 5 (.slice (some ⟨g, 0, none⟩) n cap) n C.flatten) (h5 : ∀ c ∈ C, c.length = 5) (hi : i < C.length) (hw : (((((w.setCell ⟨g, i * 5, none⟩ x0).setCell ⟨g, i * 5 + 1, none⟩ x1).setCell ⟨g, i * 5 + 2, none⟩ x2).setCell ⟨g, i * 5 + 3, none⟩ x3).setCell ⟨g, i * 5 + 4, none⟩ x4) = w2) (hb : Below v2.heap.size v2 w) (hlo : v2.heap.size ≤ base) : w2.ownsRow base 25 5 (.slice (some ⟨g, 0, none⟩) n cap) n (C.set i [x0, x1, x2, x3, x4]).flatten ∧ Below v2.heap.size v2 w2 := by
 have hg := (h.lt g rfl).1
 have hge : v2.heap.size ≤ g := by omega
 rw [← hw, flat5_set C h5 i hi]
 refine ⟨own_setV (own_setV (own_setV (own_setV (own_setV h x0) x1) x2) x3) x4, ?_⟩
 exact ((((hb.setCell (p := ⟨g, i * 5, none⟩) hge _).setCell (p := ⟨g, i * 5 + 1, none⟩) hge _).setCell (p := ⟨g, i * 5 + 2, none⟩) hge _).setCell (p := ⟨g, i * 5 + 3, none⟩) hge _).setCell (p := ⟨g, i * 5 + 4, none⟩) hge _
theorem addK0s (g x : Nat) : (⟨g, 0, none⟩ : Addr).add x = ⟨g, x, none⟩ := by
 unfold Addr.add
 by_cases hx : x = 0
 ·subst hx; simp
 ·simp [hx]
theorem own_five {w : World} {base g n cap i B : Nat} {u : World} {C : List (List Value)} {vs : List Vl} (h : w.ownsRow base 25 5 (.slice (some ⟨g, 0, none⟩) n cap) n C.flatten) (hE : ElsV u B vs C) (hi : i < vs.length) : (∃ z, w.cell? ⟨g, i * 5, none⟩ = some z ∧ w.frozen? ⟨g, i * 5, none⟩ = false) ∧ (∃ z, w.cell? ⟨g, i * 5 + 1, none⟩ = some z ∧ w.frozen? ⟨g, i * 5 + 1, none⟩ = false) ∧ (∃ z, w.cell? ⟨g, i * 5 + 2, none⟩ = some z ∧ w.frozen? ⟨g, i * 5 + 2, none⟩ = false) ∧ (∃ z, w.cell? ⟨g, i * 5 + 3, none⟩ = some z ∧ w.frozen? ⟨g, i * 5 + 3, none⟩ = false) ∧ (∃ z, w.cell? ⟨g, i * 5 + 4, none⟩ = some z ∧ w.frozen? ⟨g, i * 5 + 4, none⟩ = false) := by
 obtain ⟨c, h1, h2, _⟩ := hE.2 i _ (List.getElem?_eq_getElem hi)
 have hf : ∀ j, j < 5 → ∃ z, w.cell? ⟨g, i * 5 + j, none⟩ = some z := fun j hj => by
  have hfl := flat5_at C hE.len5 i c j _ h1 (List.getElem?_eq_getElem (by omega))
  have := h.cells (g := g) rfl _ _ hfl
  rw [addK0s] at this
  exact ⟨_, this⟩
 have hz : ∀ o, w.frozen? ⟨g, o, none⟩ = false := fun o => by
  rcases h.2 with ⟨e, _⟩ | ⟨g', cap', cur, e, _, hg, _⟩
  ·cases e
  ·simp only [Value.slice.injEq, Option.some.injEq, Addr.mk.injEq, and_true, true_and] at e
   obtain ⟨rfl, -⟩ := e
   exact frozen_of_row w g o _ _ hg
 obtain ⟨z0, e0⟩ := hf 0 (by omega)
 obtain ⟨z1, e1⟩ := hf 1 (by omega)
 obtain ⟨z2, e2⟩ := hf 2 (by omega)
 obtain ⟨z3, e3⟩ := hf 3 (by omega)
 obtain ⟨z4, e4⟩ := hf 4 (by omega)
 exact ⟨⟨z0, e0, hz _⟩, ⟨z1, e1, hz _⟩, ⟨z2, e2, hz _⟩, ⟨z3, e3, hz _⟩, ⟨z4, e4, hz _⟩⟩
theorem els_set {w : World} {B i : Nat} {vs : List Vl} {C : List (List Value)} {z : Vl} {c : List Value} (h : ElsV w B vs C) (hz : c.length = 5 ∧ IsV w B z (.agg c.toArray)) : ElsV w B (vs.set i z) (C.set i c) := by
 refine ⟨by rw [List.length_set, List.length_set, h.1], fun j y hy => ?_⟩
 have hj : j < vs.length := by have := (List.getElem?_eq_some_iff.1 hy).1; rwa [List.length_set] at this
 by_cases e : j = i
 ·subst e
  rw [List.getElem?_set_self hj] at hy
  cases hy
  exact ⟨c, by rw [List.getElem?_set_self (by rw [h.1]; exact hj)], hz⟩
 ·rw [List.getElem?_set_ne (Ne.symm e)] at hy
  obtain ⟨c', h1, h2, h3⟩ := h.2 j y hy
  exact ⟨c', by rw [List.getElem?_set_ne (Ne.symm e)]; exact h1, h2, h3⟩
theorem change_op (e0 e1 : Int) (e2 : ByteArray) (e3 : Option Addr) (e4 e5 : Nat) (e6 : Option Addr) (e7 e8 : Nat) (a : Addr) (n cl : Nat) (p0 p1 : Int) (p2 : ByteArray) (p3 : Option Addr) (p4 p5 : Nat) (p6 : Option Addr) (p7 p8 : Nat) (q0 q1 : Int) (q2 : ByteArray) (q3 : Option Addr) (q4 q5 : Nat) (q6 : Option Addr) (q7 q8 : Nat) (r0 r1 : Int) (r2 : ByteArray) (r3 : Option Addr) (r4 r5 : Nat) (r6 : Option Addr) (r7 r8 : Nat) (x y z : Vl) (B : Nat) (w : World) (hn : 3 ≤ n) (ha : a.block < w.heap.size) (h00 : w.cell? a = some (.int .i64 p0)) (h01 : w.cell? ⟨a.block, a.off + 1, none⟩ = some (.int .i64 p1)) (h02 : w.cell? ⟨a.block, a.off + 2, none⟩ = some (.string p2)) (h03 : w.cell? ⟨a.block, a.off + 3, none⟩ = some (.slice p3 p4 p5)) (h04 : w.cell? ⟨a.block, a.off + 4, none⟩ = some (.slice p6 p7 p8)) (h10 : w.cell? ⟨a.block, a.off + 5, none⟩ = some (.int .i64 q0)) (h11 : w.cell? ⟨a.block, a.off + 5 + 1, none⟩ = some (.int .i64 q1)) (h12 : w.cell? ⟨a.block, a.off + 5 + 2, none⟩ = some (.string q2)) (h13 : w.cell? ⟨a.block, a.off + 5 + 3, none⟩ = some (.slice q3 q4 q5)) (h14 : w.cell? ⟨a.block, a.off + 5 + 4, none⟩ = some (.slice q6 q7 q8)) (h20 : w.cell? ⟨a.block, a.off + 10, none⟩ = some (.int .i64 r0)) (h21 : w.cell? ⟨a.block, a.off + 10 + 1, none⟩ = some (.int .i64 r1)) (h22 : w.cell? ⟨a.block, a.off + 10 + 2, none⟩ = some (.string r2)) (h23 : w.cell? ⟨a.block, a.off + 10 + 3, none⟩ = some (.slice r3 r4 r5)) (h24 : w.cell? ⟨a.block, a.off + 10 + 4, none⟩ = some (.slice r6 r7 r8)) (hx : IsV w B x (.agg #[.int .i64 p0, .int .i64 p1, .string p2, .slice p3 p4 p5, .slice p6 p7 p8])) (hy : IsV w B y (.agg #[.int .i64 q0, .int .i64 q1, .string q2, .slice q3 q4 q5, .slice q6 q7 q8])) (hz : IsV w B z (.agg #[.int .i64 r0, .int .i64 r1, .string r2, .slice r3 r4 r5, .slice r6 r7 r8])) (hBs : B ≤ w.heap.size) (hrx : rightB x = true) (hkk : x.kind = 4) :
  Calls Tryz.prog 67 #[.agg #[.int .i64 e0, .int .i64 e1, .string e2, .slice e3 e4 e5, .slice e6 e7 e8, .slice (some a) n cl]] w fun e w' => OpPost w (changeV x y.n z) e w' := by
 obtain ⟨gb, hgb⟩ : ∃ gb, w.heap.size = gb := ⟨_, rfl⟩
 obtain ⟨v1, hv1⟩ : ∃ v1, w.alloc (.cells #[.int .i64 e0, .int .i64 e1, .string e2, .slice e3 e4 e5, .slice e6 e7 e8, .slice (some a) n cl] 50) = v1 := ⟨_, rfl⟩
 obtain ⟨gr, hgr⟩ : ∃ gr, v1.heap.size = gr := ⟨_, rfl⟩
 obtain ⟨v2, hv2⟩ : ∃ v2, v1.alloc (.cells #[.int .i64 0, .int .i64 0, .string ⟨#[]⟩, .slice none 0 0, .slice none 0 0] 25) = v2 := ⟨_, rfl⟩
 have n1 : v1.heap[gb]? = some (.cells #[.int .i64 e0, .int .i64 e1, .string e2, .slice e3 e4 e5, .slice e6 e7 e8, .slice (some a) n cl] 50 (0, 0)) := by rw [← hv1, ← hgb]; exact heap_alloc_new w _
 have n2 : v2.heap[gr]? = some (.cells #[.int .i64 0, .int .i64 0, .string ⟨#[]⟩, .slice none 0 0, .slice none 0 0] 25 (0, 0)) := by rw [← hv2, ← hgr]; exact heap_alloc_new v1 _
 have b1 : Below w.heap.size w v1 := by rw [← hv1]; exact (Below.refl _ _).alloc (Nat.le_refl _) _
 have b2 : Below v1.heap.size v1 v2 := by rw [← hv2]; exact (Below.refl _ _).alloc (Nat.le_refl _) _
 have s1 : v1.heap.size = w.heap.size + 1 := by rw [← hv1]; simp
 have HM : Hid (Below w.heap.size w v2 ∧ v2.heap[gb]? = some (.cells #[.int .i64 e0, .int .i64 e1, .string e2, .slice e3 e4 e5, .slice e6 e7 e8, .slice (some a) n cl] 50 (0, 0)) ∧ v2.heap[gr]? = some (.cells #[.int .i64 0, .int .i64 0, .string ⟨#[]⟩, .slice none 0 0, .slice none 0 0] 25 (0, 0)) ∧ w.heap.size ≤ gr ∧ gr < v2.heap.size) := hide ⟨b1.trans (b2.mono b1.size), (b2.block gb (by omega)).trans n1, n2, by omega, (Array.getElem?_eq_some_iff.1 n2).1⟩
 obtain ⟨t0, t1, t2, t3, t4, t5⟩ := block6 (uh HM).2.1
 have hA00 : v2.cell? a = some (.int .i64 p0) := ((uh HM).1.cell (p := a) ha).trans h00
 have hA01 : v2.cell? ⟨a.block, a.off + 1, none⟩ = some (.int .i64 p1) := ((uh HM).1.cell (p := ⟨a.block, a.off + 1, none⟩) ha).trans h01
 have hA02 : v2.cell? ⟨a.block, a.off + 2, none⟩ = some (.string p2) := ((uh HM).1.cell (p := ⟨a.block, a.off + 2, none⟩) ha).trans h02
 have hA03 : v2.cell? ⟨a.block, a.off + 3, none⟩ = some (.slice p3 p4 p5) := ((uh HM).1.cell (p := ⟨a.block, a.off + 3, none⟩) ha).trans h03
 have hA04 : v2.cell? ⟨a.block, a.off + 4, none⟩ = some (.slice p6 p7 p8) := ((uh HM).1.cell (p := ⟨a.block, a.off + 4, none⟩) ha).trans h04
 have hA10 : v2.cell? ⟨a.block, a.off + 5, none⟩ = some (.int .i64 q0) := ((uh HM).1.cell (p := ⟨a.block, a.off + 5, none⟩) ha).trans h10
 have hA11 : v2.cell? ⟨a.block, a.off + 5 + 1, none⟩ = some (.int .i64 q1) := ((uh HM).1.cell (p := ⟨a.block, a.off + 5 + 1, none⟩) ha).trans h11
 have hA12 : v2.cell? ⟨a.block, a.off + 5 + 2, none⟩ = some (.string q2) := ((uh HM).1.cell (p := ⟨a.block, a.off + 5 + 2, none⟩) ha).trans h12
 have hA13 : v2.cell? ⟨a.block, a.off + 5 + 3, none⟩ = some (.slice q3 q4 q5) := ((uh HM).1.cell (p := ⟨a.block, a.off + 5 + 3, none⟩) ha).trans h13
 have hA14 : v2.cell? ⟨a.block, a.off + 5 + 4, none⟩ = some (.slice q6 q7 q8) := ((uh HM).1.cell (p := ⟨a.block, a.off + 5 + 4, none⟩) ha).trans h14
 have hA20 : v2.cell? ⟨a.block, a.off + 10, none⟩ = some (.int .i64 r0) := ((uh HM).1.cell (p := ⟨a.block, a.off + 10, none⟩) ha).trans h20
 have hA21 : v2.cell? ⟨a.block, a.off + 10 + 1, none⟩ = some (.int .i64 r1) := ((uh HM).1.cell (p := ⟨a.block, a.off + 10 + 1, none⟩) ha).trans h21
 have hA22 : v2.cell? ⟨a.block, a.off + 10 + 2, none⟩ = some (.string r2) := ((uh HM).1.cell (p := ⟨a.block, a.off + 10 + 2, none⟩) ha).trans h22
 have hA23 : v2.cell? ⟨a.block, a.off + 10 + 3, none⟩ = some (.slice r3 r4 r5) := ((uh HM).1.cell (p := ⟨a.block, a.off + 10 + 3, none⟩) ha).trans h23
 have hA24 : v2.cell? ⟨a.block, a.off + 10 + 4, none⟩ = some (.slice r6 r7 r8) := ((uh HM).1.cell (p := ⟨a.block, a.off + 10 + 4, none⟩) ha).trans h24
 have hl0 : (0 : Int) < (n : Int) := by omega
 have hl1 : (1 : Int) < (n : Int) := by omega
 have hl2 : (2 : Int) < (n : Int) := by omega
 have hlt0 : gb < v2.heap.size := (Array.getElem?_eq_some_iff.1 (uh HM).2.1).1
 have hlt1 : a.block < v2.heap.size := Nat.lt_of_lt_of_le ha (uh HM).1.size
 have hp4 : p4 = x.l.length := by
  obtain ⟨k1, n1, s1, l1, ks1⟩ := x
  exact (IsP.at hx).2.2.2.1
 have hky : q1 = y.n := by
  obtain ⟨k1, n1, s1, l1, ks1⟩ := y
  exact (IsP.at hy).2.1
 obtain ⟨R, hR⟩ : ∃ R, changeV x y.n z = R := ⟨_, rfl⟩
 have hcc : cntO x = (p4 : Int) := by unfold cntO; rw [if_neg (by omega), hp4]
 obtain ⟨c, hc9⟩ : ∃ c : Int, (p4 : Int) = c := ⟨_, rfl⟩
 rw [hR]
 have CW := hide (within_any e0 e1 e2 e3 e4 e5 e6 e7 e8 a n cl p0 p1 p2 p3 p4 p5 p6 p7 p8 q0 q1 q2 q3 q4 q5 q6 q7 q8 x y B v2 (by omega) (Nat.lt_of_lt_of_le ha (uh HM).1.size) hA00 hA01 hA02 hA03 hA04 hA10 hA11 hA12 hA13 hA14 (IsV.mono ((uh HM).1.mono hBs) hx) (IsV.mono ((uh HM).1.mono hBs) hy) (Nat.le_trans hBs (uh HM).1.size))
 rw [← hky, hcc, hc9] at CW
 have HA1 : Hid ((decide (0 ≤ q1) && decide (q1 < c)) = false → R = (vlz, 2)) := hide (fun e => by rw [← hR]; unfold changeV; rw [← hky, hcc, hc9, e]; rfl)
 have HA2 : Hid ((decide (0 ≤ q1) && decide (q1 < c)) = true → R = szV (.mk 4 0 ⟨#[]⟩ (x.l.set q1.toNat z) [])) := hide (fun e => by rw [← hR]; unfold changeV; rw [← hky, hcc, hc9, if_pos e])
 have HLL : Hid (p4 = x.l.length) := hide hp4
 have HP4 : Hid (p4 ≤ 2048) := hide (by rw [hp4]; exact (right_sz hrx).2.1)
 have HXY9 := hide (And.intro hx hz)
 have HBs := hide hBs
 have HWB : Hid (∀ u, Below v2.heap.size v2 u → Below w.heap.size w u) := hide (fun u hu => (uh HM).1.trans (hu.mono (uh HM).1.size))
 have HZV9 : Hid (∀ u, Below v2.heap.size v2 u → ([.int .i64 r0, .int .i64 r1, .string r2, .slice r3 r4 r5, .slice r6 r7 r8] : List Value).length = 5 ∧ IsV u B z (.agg ([.int .i64 r0, .int .i64 r1, .string r2, .slice r3 r4 r5, .slice r6 r7 r8] : List Value).toArray)) := hide (fun u hu => ⟨rfl, IsV.mono ((uh HWB u hu).mono hBs) hz⟩)
 obtain ⟨hin, HIN⟩ : ∃ hb, (decide (0 ≤ q1) && decide (q1 < c)) = hb := ⟨_, rfl⟩
 rw [HIN] at CW HA1 HA2
 have HIN2 : Hid (hin = true → 0 ≤ q1 ∧ q1 < (p4 : Int)) := hide (fun e => by rw [e, ← hc9] at HIN; simpa using HIN)
 clear n1 n2 b1 b2 s1 h00 h01 h02 h03 h04 h10 h11 h12 h13 h14 h20 h21 h22 h23 h24 hx hy hz hBs hky hrx hkk hR hcc hc9 hp4 HIN
 go_enter Tryz.func67, Tryz.ntmps67
 go_wp2_with fail
 refine (uh CW).mono ?_
 rintro e u1 ⟨rfl, d1⟩
 have HY1 := hide d1
 clear d1 CW
 cases hin with
 | false =>
  have hrz : R = (vlz, 2) := uh HA1 rfl
  have CN : Hid (Calls Tryz.prog 101 #[.int .i64 2] u1 fun e w' => OpPost u1 R e w') := hide (by rw [hrz]; exact trap_op 2 u1)
  clear hrz HA1 HA2
  go_wp2_with fail
  refine (uh CN).mono ?_
  rintro e W9 ⟨y0, y1, y2, y3, y4, y5, y6, y7, y8, t, rfl, ⟨ht, q5⟩, d5⟩
  have X5 : Below v2.heap.size v2 W9 := (uh HY1).trans (d5.mono (uh HY1).size)
  have ER : Hid (W9.heap[gr]? = some (.cells #[.int .i64 0, .int .i64 0, .string ⟨#[]⟩, .slice none 0 0, .slice none 0 0] 25 (0, 0))) := hide ((X5.block gr (uh HM).2.2.2.2).trans (uh HM).2.2.1)
  obtain ⟨r0z, r1z, r2z, r3z, r4z⟩ := block5 (uh ER)
  obtain ⟨f0, f1, f2, f3, f4⟩ := fr5 (uh ER)
  have HF9 : Hid (IsQ W9 (fun b => v2.heap.size ≤ b ∧ b < W9.heap.size) R.1 (.agg #[.int .i64 y0, .int .i64 y1, .string y2, .slice y3 y4 y5, .slice y6 y7 y8]) ∧ t = R.2 ∧ Below v2.heap.size v2 W9) := hide ⟨q5.weak (fun b hb => ⟨Nat.le_trans (uh HY1).size hb.1, hb.2⟩), ht, X5⟩
  clear q5 d5 X5 ht CN 
  go_wp2_with fail
  (try simp only [Exit.inBlock, Exit.then])
  refine bodyPost_ret (ret_ct rfl _ _ gr #[.int .i64 y0, .int .i64 y1, .string y2, .slice y3 y4 y5, .slice y6 y7 y8] _ _ rfl (set5P (uh ER) _ _ _ _ _) Tryz.underlying25 rfl size_vl) rfl ?_
  exact op_fin (uh HM).1 (uh HM).2.2.2.1 (uh HM).2.2.2.2 (uh HF9).2.2 (uh HF9).1 (uh HF9).2.1
 | true =>
  obtain ⟨i, rfl⟩ : ∃ i : Nat, q1 = (i : Int) := ⟨q1.toNat, by have := (uh HIN2 rfl).1; omega⟩
  have HRZ : Hid (R = szV (.mk 4 0 ⟨#[]⟩ (x.l.set i z) [])) := hide (by have h := uh HA2 rfl; simpa using h)
  have hip : i < p4 := by have := (uh HIN2 rfl).2; omega
  have HIL : Hid (i < x.l.length) := hide (by rw [← uh HLL]; exact hip)
  have hj2 : (i : Int) < (p4 : Int) := by omega
  clear HA1 HA2 HIN2
  have g5 := cell_later (uh HY1) t5
  have k3 : u1.cell? ⟨a.block, a.off + 3, none⟩ = some (.slice p3 p4 p5) := cell_later (uh HY1) hA03
  have HEX : Hid (∃ C, ElsV w B x.l C ∧ Shows w p3 p4 p5 5 C.flatten) := hide (by
   have hxu := (uh HXY9).1
   obtain ⟨k1, n1, s1, l1, ks1⟩ := x
   obtain ⟨_, C, c1, c2⟩ := els_of hxu
   exact ⟨C, c1, c2⟩)
  obtain ⟨C, hEC, hSC⟩ := uh HEX
  have HEL := hide (And.intro hEC hSC)
  have CK := hide (cloneV p3 p4 p5 C.flatten u1 (hSC.later (uh HWB u1 (uh HY1))) (by have := uh HP4; omega))
  clear HEX hEC hSC
  go_wp2_with fail
  refine (uh CK).mono ?_
  rintro e u2 ⟨v', rfl, own2, d2⟩
  obtain ⟨gw, cw, rfl, hgl, _⟩ := own2.form (by omega)
  have HY2 : Hid (Below v2.heap.size v2 u2) := hide ((uh HY1).trans (d2.mono (uh HY1).size))
  have HOW := hide (And.intro own2 d2)
  have hcw : p4 ≤ cw := by
   rcases own2.2 with ⟨e, _⟩ | ⟨g', cap', cur, e, _, _, h4, _⟩
   ·cases e
   ·simp only [Value.slice.injEq] at e; omega
  clear own2 d2 CK g5 k3
  have g5 := cell_later (uh HY2) t5
  have gA11 := cell_later (uh HY2) hA11
  have gA20 := cell_later (uh HY2) hA20
  have gA21 := cell_later (uh HY2) hA21
  have gA22 := cell_later (uh HY2) hA22
  have gA23 := cell_later (uh HY2) hA23
  have gA24 := cell_later (uh HY2) hA24
  go_upto_region 4 with fail
  have HS0 : Hid (u2.drew.cell? ⟨gb, 5, none⟩ = some (.slice (some a) n cl) ∧ u2.drew.cell? ⟨a.block, a.off + 5 + 1, none⟩ = some (.int .i64 (i : Int)) ∧ u2.drew.cell? ⟨a.block, a.off + 10, none⟩ = some (.int .i64 r0) ∧ u2.drew.cell? ⟨a.block, a.off + 10 + 1, none⟩ = some (.int .i64 r1) ∧ u2.drew.cell? ⟨a.block, a.off + 10 + 2, none⟩ = some (.string r2) ∧ u2.drew.cell? ⟨a.block, a.off + 10 + 3, none⟩ = some (.slice r3 r4 r5) ∧ u2.drew.cell? ⟨a.block, a.off + 10 + 4, none⟩ = some (.slice r6 r7 r8)) := hide ⟨g5, gA11, gA20, gA21, gA22, gA23, gA24⟩
  refine till_begin (S := fun w' => w'.cell? ⟨gb, 5, none⟩ = some (.slice (some a) n cl) ∧ w'.cell? ⟨a.block, a.off + 5 + 1, none⟩ = some (.int .i64 (i : Int)) ∧ w'.cell? ⟨a.block, a.off + 10, none⟩ = some (.int .i64 r0) ∧ w'.cell? ⟨a.block, a.off + 10 + 1, none⟩ = some (.int .i64 r1) ∧ w'.cell? ⟨a.block, a.off + 10 + 2, none⟩ = some (.string r2) ∧ w'.cell? ⟨a.block, a.off + 10 + 3, none⟩ = some (.slice r3 r4 r5) ∧ w'.cell? ⟨a.block, a.off + 10 + 4, none⟩ = some (.slice r6 r7 r8)) 11 (by kernel_rfl) ?_
  refine till_take 0 (v := .slice (some ⟨gw, 0, none⟩) p4 cw) (some 17) rfl rfl rfl (by kernel_rfl) (by kernel_rfl) (by kernel_rfl) (by kernel_rfl) (fun _ _ _ h => h) (Or.inl ⟨by rfl, fun u hu => by obtain ⟨b0, b1, b2, b3, b4, b5, b6⟩ := hu; go_simp⟩) (uh HS0) ?_
  try simp only [Act.put, setX]
  refine till_take 1 (v := .pointer (some ⟨gb, 5, none⟩)) (some 18) rfl rfl rfl (by kernel_rfl) (by kernel_rfl) (by kernel_rfl) (by kernel_rfl) (fun _ _ _ h => h) (Or.inl ⟨by rfl, fun u hu => by obtain ⟨b0, b1, b2, b3, b4, b5, b6⟩ := hu; go_simp⟩) (uh HS0) ?_
  try simp only [Act.put, setX]
  refine till_take 2 (v := .slice (some a) n cl) (some 19) rfl rfl rfl (by kernel_rfl) (by kernel_rfl) (by kernel_rfl) (by kernel_rfl) (fun _ _ _ h => h) (Or.inl ⟨by rfl, fun u hu => by obtain ⟨b0, b1, b2, b3, b4, b5, b6⟩ := hu; go_simp⟩) (uh HS0) ?_
  try simp only [Act.put, setX]
  refine till_take 3 (v := .pointer (some ⟨a.block, a.off + 5, none⟩)) (some 20) rfl rfl rfl (by kernel_rfl) (by kernel_rfl) (by kernel_rfl) (by kernel_rfl) (fun _ _ _ h => h) (Or.inl ⟨by rfl, fun u hu => by obtain ⟨b0, b1, b2, b3, b4, b5, b6⟩ := hu; go_simp⟩) (uh HS0) ?_
  try simp only [Act.put, setX]
  refine till_take 4 (v := .pointer (some ⟨a.block, a.off + 5 + 1, none⟩)) (some 21) rfl rfl rfl (by kernel_rfl) (by kernel_rfl) (by kernel_rfl) (by kernel_rfl) (fun _ _ _ h => h) (Or.inl ⟨by rfl, fun u hu => by obtain ⟨b0, b1, b2, b3, b4, b5, b6⟩ := hu; go_simp⟩) (uh HS0) ?_
  try simp only [Act.put, setX]
  refine till_take 5 (v := .int .i64 (i : Int)) (some 22) rfl rfl rfl (by kernel_rfl) (by kernel_rfl) (by kernel_rfl) (by kernel_rfl) (fun _ _ _ h => h) (Or.inl ⟨by rfl, fun u hu => by obtain ⟨b0, b1, b2, b3, b4, b5, b6⟩ := hu; go_simp⟩) (uh HS0) ?_
  try simp only [Act.put, setX]
  refine till_take 6 (v := .pointer (some ⟨gb, 5, none⟩)) (some 23) rfl rfl rfl (by kernel_rfl) (by kernel_rfl) (by kernel_rfl) (by kernel_rfl) (fun _ _ _ h => h) (Or.inl ⟨by rfl, fun u hu => by obtain ⟨b0, b1, b2, b3, b4, b5, b6⟩ := hu; go_simp⟩) (uh HS0) ?_
  try simp only [Act.put, setX]
  refine till_take 7 (v := .slice (some a) n cl) (some 24) rfl rfl rfl (by kernel_rfl) (by kernel_rfl) (by kernel_rfl) (by kernel_rfl) (fun _ _ _ h => h) (Or.inl ⟨by rfl, fun u hu => by obtain ⟨b0, b1, b2, b3, b4, b5, b6⟩ := hu; go_simp⟩) (uh HS0) ?_
  try simp only [Act.put, setX]
  refine till_take 8 (v := .pointer (some ⟨a.block, a.off + 10, none⟩)) (some 25) rfl rfl rfl (by kernel_rfl) (by kernel_rfl) (by kernel_rfl) (by kernel_rfl) (fun _ _ _ h => h) (Or.inl ⟨by rfl, fun u hu => by obtain ⟨b0, b1, b2, b3, b4, b5, b6⟩ := hu; go_simp⟩) (uh HS0) ?_
  try simp only [Act.put, setX]
  refine till_take 9 (v := .agg #[.int .i64 r0, .int .i64 r1, .string r2, .slice r3 r4 r5, .slice r6 r7 r8]) (some 26) rfl rfl rfl (by kernel_rfl) (by kernel_rfl) (by kernel_rfl) (by kernel_rfl) (fun _ _ _ h => h) (Or.inl ⟨by rfl, fun u hu => by obtain ⟨b0, b1, b2, b3, b4, b5, b6⟩ := hu; go_simp⟩) (uh HS0) ?_
  try simp only [Act.put, setX]
  refine till_take 10 (v := .pointer (some ⟨gw, i * 5, none⟩)) (some 27) rfl rfl rfl (by kernel_rfl) (by kernel_rfl) (by kernel_rfl) (by kernel_rfl) (fun _ _ _ h => h) (Or.inl ⟨by rfl, fun u hu => by obtain ⟨b0, b1, b2, b3, b4, b5, b6⟩ := hu; go_simp⟩) (uh HS0) ?_
  try simp only [Act.put, setX]
  obtain ⟨W0, hW0⟩ : ∃ W0, u2.drew = W0 := ⟨_, rfl⟩
  have HO0 : Hid (W0.ownsRow u1.heap.size 25 5 (.slice (some ⟨gw, 0, none⟩) p4 cw) p4 C.flatten ∧ Below u2.heap.size u2 W0) := hide (by rw [← hW0]; exact ⟨(uh HOW).1.drew, below_drew_of' (Below.refl _ _)⟩)
  try rw [hW0]
  rw [hW0] at HS0
  clear hW0
  obtain ⟨W2, hW2⟩ : ∃ W2, (((((W0.setCell ⟨gw, i * 5, none⟩ (.int .i64 r0)).setCell ⟨gw, i * 5 + 1, none⟩ (.int .i64 r1)).setCell ⟨gw, i * 5 + 2, none⟩ (.string r2)).setCell ⟨gw, i * 5 + 3, none⟩ (.slice r3 r4 r5)).setCell ⟨gw, i * 5 + 4, none⟩ (.slice r6 r7 r8)) = W2 := ⟨_, rfl⟩
  have HE2 : Hid (W2.ownsRow u1.heap.size 25 5 (.slice (some ⟨gw, 0, none⟩) p4 cw) p4 (C.set i [.int .i64 r0, .int .i64 r1, .string r2, .slice r3 r4 r5, .slice r6 r7 r8]).flatten ∧ Below v2.heap.size v2 W2) := hide (own_set5 (uh HO0).1 (uh HEL).1.len5 (by rw [(uh HEL).1.1]; exact uh HIL) hW2 ((uh HY2).trans ((uh HO0).2.mono (uh HY2).size)) (uh HY1).size)
  refine till_one 11 (by kernel_rfl) rfl (fun K hK => ?_)
  obtain ⟨z0, z1, z2, z3, z4⟩ := own_five (uh HO0).1 (uh HEL).1 (uh HIL)
  obtain ⟨zv0, hzv0, fz0⟩ := z0
  obtain ⟨zv1, hzv1, fz1⟩ := z1
  obtain ⟨zv2, hzv2, fz2⟩ := z2
  obtain ⟨zv3, hzv3, fz3⟩ := z3
  obtain ⟨zv4, hzv4, fz4⟩ := z4
  go_simp
  try rw [hW2]
  refine hK.out _ _ (Or.inl (by first | rfl | trivial)) ?_
  clear hK K HS0 hzv0 fz0 hzv1 fz1 hzv2 fz2 hzv3 fz3 hzv4 fz4 hW2
  try simp only [Act.put, setX]
  refine till_done (by kernel_rfl) ?_ _
  have E6 : ElsV W2 B (x.l.set i z) (C.set i [.int .i64 r0, .int .i64 r1, .string r2, .slice r3 r4 r5, .slice r6 r7 r8]) := els_set ((uh HEL).1.later ((uh HWB W2 (uh HE2).2).mono (uh HBs))) (uh HZV9 W2 (uh HE2).2)
  obtain ⟨a6, c6, hsv, V6⟩ := own_val (uh HE2).1 E6 (by rw [List.length_set]; exact (uh HLL).symm) (Nat.le_trans (uh HBs) (uh HWB W2 (uh HE2).2).size) (by have := uh HP4; omega)
  simp only [Value.slice.injEq] at hsv
  obtain ⟨rfl, -, rfl⟩ := hsv
  have CN : Hid (Calls Tryz.prog 99 #[.agg #[.int .i64 4, .int .i64 0, .string ⟨#[]⟩, .slice (some ⟨gw, 0, none⟩) p4 cw, .slice none 0 0]] W2 fun e w' => OpPost W2 R e w') := hide (by rw [uh HRZ]; exact sized_op _ _ W2.heap.size W2 V6 (Nat.le_refl _))
  have XW := hide (uh HE2).2
  clear E6 V6 HE2 HO0
  go_wp2_with fail
  refine (uh CN).mono ?_
  rintro e W9 ⟨y0, y1, y2, y3, y4, y5, y6, y7, y8, t, rfl, ⟨ht, q5⟩, d5⟩
  have X5 : Below v2.heap.size v2 W9 := (uh XW).trans (d5.mono (uh XW).size)
  have ER : Hid (W9.heap[gr]? = some (.cells #[.int .i64 0, .int .i64 0, .string ⟨#[]⟩, .slice none 0 0, .slice none 0 0] 25 (0, 0))) := hide ((X5.block gr (uh HM).2.2.2.2).trans (uh HM).2.2.1)
  obtain ⟨r0z, r1z, r2z, r3z, r4z⟩ := block5 (uh ER)
  obtain ⟨f0, f1, f2, f3, f4⟩ := fr5 (uh ER)
  have HF9 : Hid (IsQ W9 (fun b => v2.heap.size ≤ b ∧ b < W9.heap.size) R.1 (.agg #[.int .i64 y0, .int .i64 y1, .string y2, .slice y3 y4 y5, .slice y6 y7 y8]) ∧ t = R.2 ∧ Below v2.heap.size v2 W9) := hide ⟨q5.weak (fun b hb => ⟨Nat.le_trans (uh XW).size hb.1, hb.2⟩), ht, X5⟩
  clear q5 d5 X5 ht CN 
  go_wp2_with fail
  (try simp only [Exit.inBlock, Exit.then])
  refine bodyPost_ret (ret_ct rfl _ _ gr #[.int .i64 y0, .int .i64 y1, .string y2, .slice y3 y4 y5, .slice y6 y7 y8] _ _ rfl (set5P (uh ER) _ _ _ _ _) Tryz.underlying25 rfl size_vl) rfl ?_
  exact op_fin (uh HM).1 (uh HM).2.2.2.1 (uh HM).2.2.2.2 (uh HF9).2.2 (uh HF9).1 (uh HF9).2.1
end Go.Proofs.YtgkmdjmigehmeaaGreatDoor

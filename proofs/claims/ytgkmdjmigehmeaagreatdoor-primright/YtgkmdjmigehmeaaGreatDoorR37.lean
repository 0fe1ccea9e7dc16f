/-
  What an operation answers, in new memory (prim); count, length, kind, not, abort, array; no conditions but the form's own reach.
-/
import Derived.Test.YtgkmdjmigehmeaaGreatDoorR36
namespace Go.Proofs.YtgkmdjmigehmeaaGreatDoor
set_option linter.unusedVariables false
set_option linter.unusedSimpArgs false
set_option maxRecDepth 100000
set_option maxHeartbeats 16000000
open Go.RowKit Go.Shelf
def OpPost (w : World) (r : Vl × Int) (e : Ending) (w' : World) : Prop := ∃ (y0 y1 : Int) (y2 : ByteArray) (y3 : Option Addr) (y4 y5 : Nat) (y6 : Option Addr) (y7 y8 : Nat) (t : Int), e = .returned (.tuple #[.agg #[.int .i64 y0, .int .i64 y1, .string y2, .slice y3 y4 y5, .slice y6 y7 y8], .int .i64 t]) ∧ (t = r.2 ∧ IsQ w' (fun b => w.heap.size ≤ b ∧ b < w'.heap.size) r.1 (.agg #[.int .i64 y0, .int .i64 y1, .string y2, .slice y3 y4 y5, .slice y6 y7 y8])) ∧ Below w.heap.size w w'
theorem op_fin {w v2 W : World} {gr : Nat} {r : Vl × Int} {y0 y1 : Int} {y2 : ByteArray} {y3 : Option Addr} {y4 y5 : Nat} {y6 : Option Addr} {y7 y8 : Nat} {t : Int} (hb : Below w.heap.size w v2) (h1 : w.heap.size ≤ gr) (h2 : gr < v2.heap.size) (X : Below v2.heap.size v2 W) (HQ : IsQ W (fun b => v2.heap.size ≤ b ∧ b < W.heap.size) r.1 (.agg #[.int .i64 y0, .int .i64 y1, .string y2, .slice y3 y4 y5, .slice y6 y7 y8])) (ht : t = r.2) : OpPost w r (.returned (.tuple #[.agg #[.int .i64 y0, .int .i64 y1, .string y2, .slice y3 y4 y5, .slice y6 y7 y8], .int .i64 t])) (((((W.setCell ⟨gr, 0, none⟩ (.int .i64 y0)).setCell ⟨gr, 1, none⟩ (.int .i64 y1)).setCell ⟨gr, 2, none⟩ (.string y2)).setCell ⟨gr, 3, none⟩ (.slice y3 y4 y5)).setCell ⟨gr, 4, none⟩ (.slice y6 y7 y8)) := by
 refine ⟨_, _, _, _, _, _, _, _, _, _, rfl, ⟨ht, HQ.to (fun b hb' => ?_) (fun b hb' => ⟨Nat.le_trans hb.size hb'.1, by simpa using hb'.2⟩)⟩, set5P_below (hb.trans (X.mono hb.size)) h1 _ _ _ _ _⟩
 have hne : b ≠ gr := by have := hb'.1; omega
 rw [heap_setCell_other _ _ _ _ hne, heap_setCell_other _ _ _ _ hne, heap_setCell_other _ _ _ _ hne, heap_setCell_other _ _ _ _ hne, heap_setCell_other _ _ _ _ hne]
theorem leaf_isQ (w : World) (P : Nat → Prop) (k n : Int) (s : ByteArray) (bk : -9223372036854775808 ≤ k ∧ k ≤ 9223372036854775807) (bn : -9223372036854775808 ≤ n ∧ n ≤ 9223372036854775807) (bs : s.size ≤ 140737488351232) : IsQ w P (.mk k n s [] []) (.agg #[.int .i64 k, .int .i64 n, .string s, .slice none 0 0, .slice none 0 0]) :=
 ⟨IsP.of (V := fun _ => []) ⟨bk, bn, bs, fun _ => ⟨rfl, rfl⟩, fun _ => ⟨rfl, rfl⟩, Nat.le_refl _, Nat.le_refl _, by simp, by simp, by simp, fun a ha => by (cases ha), fun i hi => by (simp at hi), fun a ha => by (cases ha), fun t ht => by (cases ht)⟩ (fun i y hy => by simp at hy), Ty.leaf ⟨k, n, s, rfl⟩ _⟩
theorem e0sP : (⟨#[]⟩ : ByteArray).size = 0 := rfl
theorem number_op (n : Int) (w : World) (hb : -9223372036854775808 ≤ n ∧ n ≤ 9223372036854775807) : Calls Tryz.prog 98 #[.int .i64 n] w fun e w' => OpPost w (nm n, 0) e w' := by
 refine (number_any n w).mono ?_
 rintro e w' ⟨rfl, b⟩
 exact ⟨_, _, _, _, _, _, _, _, _, _, rfl, ⟨rfl, leaf_isQ _ _ 2 n _ (by omega) hb (by rw [e0sP]; omega)⟩, b⟩
theorem trap_op (n : Int) (w : World) : Calls Tryz.prog 101 #[.int .i64 n] w fun e w' => OpPost w (vlz, n) e w' := by
 refine (trap_any n w).mono ?_
 rintro e w' ⟨rfl, b⟩
 exact ⟨_, _, _, _, _, _, _, _, _, _, rfl, ⟨rfl, leaf_isQ _ _ 0 0 _ (by omega) (by omega) (by rw [e0sP]; omega)⟩, b⟩
def tv (b : Bool) : Vl := .mk 1 (tN b) ⟨#[]⟩ [] []
theorem truth_op (b : Bool) (w : World) : Calls Tryz.prog 102 #[.bool b] w fun e w' => OpPost w (tv b, 0) e w' := by
 refine (truthv_any b w).mono ?_
 rintro e w' ⟨rfl, b'⟩
 exact ⟨_, _, _, _, _, _, _, _, _, _, rfl, ⟨rfl, leaf_isQ _ _ 1 (tN b) _ (by omega) (by unfold tN; split <;> omega) (by rw [e0sP]; omega)⟩, b'⟩
def szV (v : Vl) : Vl × Int := if rightB v = true then (v, 0) else (vlz, 5)
theorem sized_op (v : Vl) (x : Value) (B : Nat) (w : World) (hv : IsV w B v x) (hBs : B ≤ w.heap.size) : Calls Tryz.prog 99 #[x] w fun e w' => OpPost w (szV v) e w' := by
 refine (psized_any v x B w hv hBs).mono ?_
 rintro e w' ⟨x', rfl, b, h1, h2⟩
 cases hr : rightB v with
 | true =>
  have q := h1 hr
  obtain ⟨k', n', s', l', ks', al', ak', cl', ck', _, hx⟩ := q.shape
  subst hx
  exact ⟨_, _, _, _, _, _, _, _, _, _, rfl, ⟨by unfold szV; rw [hr]; rfl, by unfold szV; rw [hr]; exact q⟩, b⟩
 | false =>
  have hx := h2 hr
  subst hx
  exact ⟨_, _, _, _, _, _, _, _, _, _, rfl, ⟨by unfold szV; rw [hr]; rfl, by unfold szV; rw [hr]; exact leaf_isQ _ _ 0 0 _ (by omega) (by omega) (by rw [e0sP]; omega)⟩, b⟩
theorem right_sz {v : Vl} (h : rightB v = true) : v.s.size ≤ 2048 ∧ v.l.length ≤ 2048 ∧ v.ks.length ≤ 2048 := by
 obtain ⟨k, n, s, l, ks⟩ := v
 have h1 := (right_wt h).2
 have h2 : wt (.mk k n s l ks) = 1 + s.size + keysW ks + wtL l := by simp only [wt]
 have h3 := len_cntL l
 have h4 := cntL_wt l
 have h5 : ∀ (ks : List ByteArray), ks.length ≤ keysW ks := by
  intro ks
  induction ks with
  | nil => simp [keysW]
  | cons t r ih => simp only [keysW, List.length_cons]; omega
 have h6 := h5 ks
 exact ⟨by dsimp only; omega, by dsimp only; omega, by dsimp only; omega⟩
def cntO (x : Vl) : Int := if x.kind = 3 then (x.s.size : Int) else (x.l.length : Int)
theorem count_any (e0 e1 : Int) (e2 : ByteArray) (e3 : Option Addr) (e4 e5 : Nat) (e6 : Option Addr) (e7 e8 : Nat) (a : Addr) (n cl : Nat) (p0 p1 : Int) (p2 : ByteArray) (p3 : Option Addr) (p4 p5 : Nat) (p6 : Option Addr) (p7 p8 : Nat) (x : Vl) (B : Nat) (w : World) (hn : 1 ≤ n) (ha : a.block < w.heap.size) (h00 : w.cell? a = some (.int .i64 p0)) (h01 : w.cell? ⟨a.block, a.off + 1, none⟩ = some (.int .i64 p1)) (h02 : w.cell? ⟨a.block, a.off + 2, none⟩ = some (.string p2)) (h03 : w.cell? ⟨a.block, a.off + 3, none⟩ = some (.slice p3 p4 p5)) (h04 : w.cell? ⟨a.block, a.off + 4, none⟩ = some (.slice p6 p7 p8)) (hx : IsV w B x (.agg #[.int .i64 p0, .int .i64 p1, .string p2, .slice p3 p4 p5, .slice p6 p7 p8])) (hBs : B ≤ w.heap.size) :
  Calls Tryz.prog 109 #[.agg #[.int .i64 e0, .int .i64 e1, .string e2, .slice e3 e4 e5, .slice e6 e7 e8, .slice (some a) n cl]] w fun e w' => e = .returned (.int .i64 (cntO x)) ∧ Below w.heap.size w w' := by
 obtain ⟨gb, hgb⟩ : ∃ gb, w.heap.size = gb := ⟨_, rfl⟩
 obtain ⟨v1, hv1⟩ : ∃ v1, w.alloc (.cells #[.int .i64 e0, .int .i64 e1, .string e2, .slice e3 e4 e5, .slice e6 e7 e8, .slice (some a) n cl] 50) = v1 := ⟨_, rfl⟩
 have n1 : v1.heap[gb]? = some (.cells #[.int .i64 e0, .int .i64 e1, .string e2, .slice e3 e4 e5, .slice e6 e7 e8, .slice (some a) n cl] 50 (0, 0)) := by rw [← hv1, ← hgb]; exact heap_alloc_new w _
 have b1 : Below w.heap.size w v1 := by rw [← hv1]; exact (Below.refl _ _).alloc (Nat.le_refl _) _
 obtain ⟨t0, t1, t2, t3, t4, t5⟩ := block6 n1
 have hA0 : v1.cell? a = some (.int .i64 p0) := (b1.cell (p := a) ha).trans h00
 have hA2 : v1.cell? ⟨a.block, a.off + 2, none⟩ = some (.string p2) := (b1.cell (p := ⟨a.block, a.off + 2, none⟩) ha).trans h02
 have hA3 : v1.cell? ⟨a.block, a.off + 3, none⟩ = some (.slice p3 p4 p5) := (b1.cell (p := ⟨a.block, a.off + 3, none⟩) ha).trans h03
 have hl0 : (0 : Int) < (n : Int) := by omega
 have HB := hide b1
 obtain ⟨k, nn, s, l, ks⟩ := x
 obtain ⟨hk, _, hs, hll, _, _⟩ := IsP.at hx
 have HS : Hid (cntO (.mk k nn s l ks) = if p0 = 3 then (p2.size : Int) else (p4 : Int)) := hide (by unfold cntO; rw [hk, hs, hll])
 clear n1 b1 hx h00 h01 h02 h03 h04 hk hs hll
 by_cases h3 : p0 = 3
 ·subst h3
  have HS2 : Hid (cntO (.mk k nn s l ks) = (p2.size : Int)) := hide (by rw [uh HS, if_pos rfl])
  go_enter Tryz.func109, Tryz.ntmps109
  go_wp2_with fail
  go_ret
  exact ⟨by rw [uh HS2]; rfl, by first | exact uh HB | (rw [← hgb]; exact uh HB)⟩
 ·have h3b : (p0 == 3) = false := beq_eq_false_iff_ne.2 h3
  have HS2 : Hid (cntO (.mk k nn s l ks) = (p4 : Int)) := hide (by rw [uh HS, if_neg h3])
  go_enter Tryz.func109, Tryz.ntmps109
  go_wp2_with fail
  go_ret
  exact ⟨by rw [uh HS2]; rfl, by first | exact uh HB | (rw [← hgb]; exact uh HB)⟩
theorem length_op (e0 e1 : Int) (e2 : ByteArray) (e3 : Option Addr) (e4 e5 : Nat) (e6 : Option Addr) (e7 e8 : Nat) (a : Addr) (n cl : Nat) (p0 p1 : Int) (p2 : ByteArray) (p3 : Option Addr) (p4 p5 : Nat) (p6 : Option Addr) (p7 p8 : Nat) (x : Vl) (B : Nat) (w : World) (hn : 1 ≤ n) (ha : a.block < w.heap.size) (h00 : w.cell? a = some (.int .i64 p0)) (h01 : w.cell? ⟨a.block, a.off + 1, none⟩ = some (.int .i64 p1)) (h02 : w.cell? ⟨a.block, a.off + 2, none⟩ = some (.string p2)) (h03 : w.cell? ⟨a.block, a.off + 3, none⟩ = some (.slice p3 p4 p5)) (h04 : w.cell? ⟨a.block, a.off + 4, none⟩ = some (.slice p6 p7 p8)) (hx : IsV w B x (.agg #[.int .i64 p0, .int .i64 p1, .string p2, .slice p3 p4 p5, .slice p6 p7 p8])) (hBs : B ≤ w.heap.size) (hr : rightB x = true) :
  Calls Tryz.prog 65 #[.agg #[.int .i64 e0, .int .i64 e1, .string e2, .slice e3 e4 e5, .slice e6 e7 e8, .slice (some a) n cl]] w fun e w' => OpPost w (nm (cntO x), 0) e w' := by
 obtain ⟨gb, hgb⟩ : ∃ gb, w.heap.size = gb := ⟨_, rfl⟩
 obtain ⟨v1, hv1⟩ : ∃ v1, w.alloc (.cells #[.int .i64 e0, .int .i64 e1, .string e2, .slice e3 e4 e5, .slice e6 e7 e8, .slice (some a) n cl] 50) = v1 := ⟨_, rfl⟩
 obtain ⟨gr, hgr⟩ : ∃ gr, v1.heap.size = gr := ⟨_, rfl⟩
 obtain ⟨v2, hv2⟩ : ∃ v2, v1.alloc (.cells #[.int .i64 0, .int .i64 0, .string ⟨#[]⟩, .slice none 0 0, .slice none 0 0] 25) = v2 := ⟨_, rfl⟩
 have n1 : v1.heap[gb]? = some (.cells #[.int .i64 e0, .int .i64 e1, .string e2, .slice e3 e4 e5, .slice e6 e7 e8, .slice (some a) n cl] 50 (0, 0)) := by rw [← hv1, ← hgb]; exact heap_alloc_new w _
 have n2 : v2.heap[gr]? = some (.cells #[.int .i64 0, .int .i64 0, .string ⟨#[]⟩, .slice none 0 0, .slice none 0 0] 25 (0, 0)) := by rw [← hv2, ← hgr]; exact heap_alloc_new v1 _
 have b1 : Below w.heap.size w v1 := by rw [← hv1]; exact (Below.refl _ _).alloc (Nat.le_refl _) _
 have b2 : Below v1.heap.size v1 v2 := by rw [← hv2]; exact (Below.refl _ _).alloc (Nat.le_refl _) _
 have s1 : v1.heap.size = w.heap.size + 1 := by rw [← hv1]; simp
 have HM : Hid (Below w.heap.size w v2 ∧ v2.heap[gb]? = some (.cells #[.int .i64 e0, .int .i64 e1, .string e2, .slice e3 e4 e5, .slice e6 e7 e8, .slice (some a) n cl] 50 (0, 0)) ∧ v2.heap[gr]? = some (.cells #[.int .i64 0, .int .i64 0, .string ⟨#[]⟩, .slice none 0 0, .slice none 0 0] 25 (0, 0)) ∧ w.heap.size ≤ gr ∧ gr < v2.heap.size) := hide ⟨b1.trans (b2.mono b1.size), (b2.block gb (by omega)).trans n1, n2, by omega, (Array.getElem?_eq_some_iff.1 n2).1⟩
 obtain ⟨t0, t1, t2, t3, t4, t5⟩ := block6 (uh HM).2.1
 have hA00 : v2.cell? a = some (.int .i64 p0) := ((uh HM).1.cell (p := a) ha).trans h00
 have hA01 : v2.cell? ⟨a.block, a.off + 1, none⟩ = some (.int .i64 p1) := ((uh HM).1.cell (p := ⟨a.block, a.off + 1, none⟩) ha).trans h01
 have hA02 : v2.cell? ⟨a.block, a.off + 2, none⟩ = some (.string p2) := ((uh HM).1.cell (p := ⟨a.block, a.off + 2, none⟩) ha).trans h02
 have hA03 : v2.cell? ⟨a.block, a.off + 3, none⟩ = some (.slice p3 p4 p5) := ((uh HM).1.cell (p := ⟨a.block, a.off + 3, none⟩) ha).trans h03
 have hA04 : v2.cell? ⟨a.block, a.off + 4, none⟩ = some (.slice p6 p7 p8) := ((uh HM).1.cell (p := ⟨a.block, a.off + 4, none⟩) ha).trans h04
 have CC := hide (count_any e0 e1 e2 e3 e4 e5 e6 e7 e8 a n cl p0 p1 p2 p3 p4 p5 p6 p7 p8 x B v2 hn (Nat.lt_of_lt_of_le ha (uh HM).1.size) hA00 hA01 hA02 hA03 hA04 (IsV.mono ((uh HM).1.mono hBs) hx) (Nat.le_trans hBs (uh HM).1.size))
 have hc : -9223372036854775808 ≤ cntO x ∧ cntO x ≤ 9223372036854775807 := by
  have := right_sz hr
  unfold cntO
  split <;> omega
 obtain ⟨c, hcc⟩ : ∃ c, cntO x = c := ⟨_, rfl⟩
 rw [hcc] at CC hc ⊢
 have CN : Hid (∀ u, Calls Tryz.prog 98 #[.int .i64 c] u fun e w' => OpPost u (nm c, 0) e w') := hide (fun u => number_op c u hc)
 clear n1 n2 b1 b2 s1 h00 h01 h02 h03 h04 hx hcc hr hc hA00 hA01 hA02 hA03 hA04
 go_enter Tryz.func65, Tryz.ntmps65
 go_wp2_with fail
 refine (uh CC).mono ?_
 rintro e W5 ⟨rfl, d0⟩
 have X0 := hide d0
 have CN2 := hide (uh CN W5)
 clear d0 CC CN t0 t1 t2 t3 t4 t5
 go_wp2_with fail
 refine (uh CN2).mono ?_
 rintro e W9 ⟨y0, y1, y2, y3, y4, y5, y6, y7, y8, t, rfl, ⟨ht, q5⟩, d5⟩
 have X5 : Below v2.heap.size v2 W9 := (uh X0).trans (d5.mono (uh X0).size)
 have ER : Hid (W9.heap[gr]? = some (.cells #[.int .i64 0, .int .i64 0, .string ⟨#[]⟩, .slice none 0 0, .slice none 0 0] 25 (0, 0))) := hide ((X5.block gr (uh HM).2.2.2.2).trans (uh HM).2.2.1)
 obtain ⟨r0z, r1z, r2z, r3z, r4z⟩ := block5 (uh ER)
 obtain ⟨f0, f1, f2, f3, f4⟩ := fr5 (uh ER)
 have HF9 : Hid (IsQ W9 (fun b => v2.heap.size ≤ b ∧ b < W9.heap.size) (nm c, (0 : Int)).1 (.agg #[.int .i64 y0, .int .i64 y1, .string y2, .slice y3 y4 y5, .slice y6 y7 y8]) ∧ t = (nm c, (0 : Int)).2 ∧ Below v2.heap.size v2 W9) := hide ⟨q5.weak (fun b hb => ⟨Nat.le_trans (uh X0).size hb.1, hb.2⟩), ht, X5⟩
 clear q5 d5 X5 ht CN2 
 go_wp2_with fail
 (try simp only [Exit.inBlock, Exit.then])
 refine bodyPost_ret (ret_ct rfl _ _ gr #[.int .i64 y0, .int .i64 y1, .string y2, .slice y3 y4 y5, .slice y6 y7 y8] _ _ rfl (set5P (uh ER) _ _ _ _ _) Tryz.underlying25 rfl size_vl) rfl ?_
 exact op_fin (uh HM).1 (uh HM).2.2.2.1 (uh HM).2.2.2.2 (uh HF9).2.2 (uh HF9).1 (uh HF9).2.1
end Go.Proofs.YtgkmdjmigehmeaaGreatDoor

/-
  How Do goes (prim): refusals, and how an operation that fits is done; conditions: the package's variables.
-/
import Derived.Test.YtgkmdjmigehmeaaGreatDoorR30
namespace Go.Proofs.YtgkmdjmigehmeaaGreatDoor
set_option linter.unusedVariables false
set_option linter.unusedSimpArgs false
set_option maxRecDepth 100000
set_option maxHeartbeats 16000000
open Go.RowKit
theorem set5P {w : World} {q : Nat} {z0 z1 z2 z3 z4 : Value} {T : TypeId} (h : w.heap[q]? = some (.cells #[z0, z1, z2, z3, z4] T (0, 0))) (y0 y1 y2 y3 y4 : Value) :
  (((((w.setCell ⟨q, 0, none⟩ y0).setCell ⟨q, 1, none⟩ y1).setCell ⟨q, 2, none⟩ y2).setCell ⟨q, 3, none⟩ y3).setCell ⟨q, 4, none⟩ y4).heap[q]? = some (.cells #[y0, y1, y2, y3, y4] T (0, 0)) := by
 have e0 := heap_setCell_same w q 0 _ T y0 h
 simp only [setX] at e0
 have e1 := heap_setCell_same _ q 1 _ T y1 e0
 simp only [setX] at e1
 have e2 := heap_setCell_same _ q 2 _ T y2 e1
 simp only [setX] at e2
 have e3 := heap_setCell_same _ q 3 _ T y3 e2
 simp only [setX] at e3
 have e4 := heap_setCell_same _ q 4 _ T y4 e3
 simp only [setX] at e4
 exact e4
theorem set5P_below {w w0 : World} {B q : Nat} (h : Below B w0 w) (hq : B ≤ q) (y0 y1 y2 y3 y4 : Value) :
  Below B w0 (((((w.setCell ⟨q, 0, none⟩ y0).setCell ⟨q, 1, none⟩ y1).setCell ⟨q, 2, none⟩ y2).setCell ⟨q, 3, none⟩ y3).setCell ⟨q, 4, none⟩ y4) :=
 (((((h.setCell (p := ⟨q, 0, none⟩) hq _).setCell (p := ⟨q, 1, none⟩) hq _).setCell (p := ⟨q, 2, none⟩) hq _).setCell (p := ⟨q, 3, none⟩) hq _).setCell (p := ⟨q, 4, none⟩) hq _)
theorem wpList_index_v {P : Program} {w : World} {ops : Array Oper} {rest : List Oper} {o : Oper} {a : Act} {Q : Exit → Act → World → Prop} (hgd : o.guard = none) (T : TypeId) (x y : Operand) (ho : o.op = .index T x y)
  (v : Value) (hrun : (Instr.index T (a.eval x) (a.eval y)).run P w = .ok v w) (h : wpList P ops Q rest (a.put o.dst v) w) : wpList P ops Q (o :: rest) a w := by
 refine wpList_plain hgd fun K hK => ?_
 unfold Oper.wp
 simp [execOp, ho, hrun, Result.andThen]
 exact hK _ _ h
def mayB (op : Int) (ex : Vl) (vs : List Vl) : Bool := decide (10 ≤ op ∧ op ≤ 37) && (decide (takesA op vs.length ex = vs.length) && (rightB ex && vs.all rightB))
theorem do_bad (op : Int) (ex : Vl) (e0 e1 : Int) (e2 : ByteArray) (e3 : Option Addr) (e4 e5 : Nat) (e6 : Option Addr) (e7 e8 : Nat) (vs : List Vl) (al : Option Addr) (n cl B : Nat) (w : World) (ht : Tab w) (hx : IsV w B ex (.agg #[.int .i64 e0, .int .i64 e1, .string e2, .slice e3 e4 e5, .slice e6 e7 e8])) (h : ArV w B vs al n cl) (hBs : B ≤ w.heap.size) (hbad : mayB op ex vs = false) :
  Calls Tryz.prog 12 #[.int .i64 op, .agg #[.int .i64 e0, .int .i64 e1, .string e2, .slice e3 e4 e5, .slice e6 e7 e8], .slice al n cl] w fun e w' => e = .returned (.tuple #[.agg #[.int .i64 0, .int .i64 0, .string ⟨#[]⟩, .slice none 0 0, .slice none 0 0], .int .i64 3]) ∧ Below w.heap.size w w' := by
 obtain ⟨gx, hgx⟩ : ∃ gx, w.heap.size = gx := ⟨_, rfl⟩
 obtain ⟨v1, hv1⟩ : ∃ v1, w.alloc (.cells #[.int .i64 e0, .int .i64 e1, .string e2, .slice e3 e4 e5, .slice e6 e7 e8] 25) = v1 := ⟨_, rfl⟩
 obtain ⟨gr, hgr⟩ : ∃ gr, v1.heap.size = gr := ⟨_, rfl⟩
 obtain ⟨v2, hv2⟩ : ∃ v2, v1.alloc (.cells #[.int .i64 0, .int .i64 0, .string ⟨#[]⟩, .slice none 0 0, .slice none 0 0] 25) = v2 := ⟨_, rfl⟩
 obtain ⟨gt, hgt⟩ : ∃ gt, v2.heap.size = gt := ⟨_, rfl⟩
 obtain ⟨v3, hv3⟩ : ∃ v3, v2.alloc (.cells #[.int .i64 e0, .int .i64 e1, .string e2, .slice e3 e4 e5, .slice e6 e7 e8, .slice al n cl] 50) = v3 := ⟨_, rfl⟩
 have n1 : v1.heap[gx]? = some (.cells #[.int .i64 e0, .int .i64 e1, .string e2, .slice e3 e4 e5, .slice e6 e7 e8] 25 (0, 0)) := by rw [← hv1, ← hgx]; exact heap_alloc_new w _
 have n2 : v2.heap[gr]? = some (.cells #[.int .i64 0, .int .i64 0, .string ⟨#[]⟩, .slice none 0 0, .slice none 0 0] 25 (0, 0)) := by rw [← hv2, ← hgr]; exact heap_alloc_new v1 _
 have n3 : v3.heap[gt]? = some (.cells #[.int .i64 e0, .int .i64 e1, .string e2, .slice e3 e4 e5, .slice e6 e7 e8, .slice al n cl] 50 (0, 0)) := by rw [← hv3, ← hgt]; exact heap_alloc_new v2 _
 have b1 : Below w.heap.size w v1 := by rw [← hv1]; exact (Below.refl _ _).alloc (Nat.le_refl _) _
 have b2 : Below v1.heap.size v1 v2 := by rw [← hv2]; exact (Below.refl _ _).alloc (Nat.le_refl _) _
 have b3 : Below v2.heap.size v2 v3 := by rw [← hv3]; exact (Below.refl _ _).alloc (Nat.le_refl _) _
 have s1 : v1.heap.size = w.heap.size + 1 := by rw [← hv1]; simp
 have s2 : v2.heap.size = v1.heap.size + 1 := by rw [← hv2]; simp
 have HM : Hid (Below w.heap.size w v3 ∧ v3.heap[gx]? = some (.cells #[.int .i64 e0, .int .i64 e1, .string e2, .slice e3 e4 e5, .slice e6 e7 e8] 25 (0, 0)) ∧ v3.heap[gr]? = some (.cells #[.int .i64 0, .int .i64 0, .string ⟨#[]⟩, .slice none 0 0, .slice none 0 0] 25 (0, 0)) ∧ v3.heap[gt]? = some (.cells #[.int .i64 e0, .int .i64 e1, .string e2, .slice e3 e4 e5, .slice e6 e7 e8, .slice al n cl] 50 (0, 0)) ∧ w.heap.size ≤ gr) := hide ⟨b1.trans ((b2.trans (b3.mono b2.size)).mono b1.size), (b3.block gx (by omega)).trans ((b2.block gx (by omega)).trans n1), (b3.block gr (by omega)).trans n2, n3, by omega⟩
 obtain ⟨p0, p1, p2, p3, p4⟩ := block5 ((b2.block gx (by omega)).trans n1)
 obtain ⟨x0, x1, x2, x3, x4⟩ := block5 (uh HM).2.1
 obtain ⟨t0, t1, t2, t3, t4, t5⟩ := block6 (uh HM).2.2.2.1
 have hN : n ≤ 140737488351232 := by have hn := h.1; obtain ⟨_, _, _, _, V, _, hf, _⟩ := h.2; have := hf.bl; simp only [hn] at this; exact this
 have HW : Hid (∀ u, Below v3.heap.size v3 u → Below w.heap.size w u) := hide (fun u hu => (uh HM).1.trans (hu.mono (uh HM).1.size))
 have HT : Hid (∀ u, Below w.heap.size w u → Tab u) := hide (fun u hu => ht.later hu ht.big hu.size)
 have CP : Hid (∀ u, Calls Tryz.prog 18 #[.int .i64 op] u fun e w' => e = .returned (.bool (decide ((10 : Int) ≤ (op : Int) ∧ (op : Int) ≤ 37))) ∧ Below u.heap.size u w') := hide (fun u => pure_any op u)
 have CT : Hid (∀ u, Below w.heap.size w u → Calls Tryz.prog 19 #[.int .i64 op, .int .i64 n, .agg #[.int .i64 e0, .int .i64 e1, .string e2, .slice e3 e4 e5, .slice e6 e7 e8]] u fun e w' => e = .returned (.int .i64 (takesA op n ex)) ∧ Below u.heap.size u w') := hide (fun u hu => takes_any op n ex e0 e1 e2 e3 e4 e5 e6 e7 e8 B u (uh HT u hu) (IsV.mono (hu.mono hBs) hx) (Nat.le_trans hBs hu.size))
 have CR : Hid (∀ u, Below w.heap.size w u → Calls Tryz.prog 28 #[.agg #[.int .i64 e0, .int .i64 e1, .string e2, .slice e3 e4 e5, .slice e6 e7 e8, .slice al n cl]] u fun e w' => e = .returned (.bool (rightB ex && vs.all rightB)) ∧ Below u.heap.size u w') := hide (fun u hu => tright_any ex e0 e1 e2 e3 e4 e5 e6 e7 e8 vs al n cl B u (IsV.mono (hu.mono hBs) hx) (h.later (hu.mono hBs)) (Nat.le_trans hBs hu.size))
 obtain ⟨P, hP⟩ : ∃ P, decide (10 ≤ op ∧ op ≤ 37) = P := ⟨_, rfl⟩
 obtain ⟨K, hK⟩ : ∃ K, takesA op n ex = K := ⟨_, rfl⟩
 obtain ⟨R, hR⟩ : ∃ R, (rightB ex && vs.all rightB) = R := ⟨_, rfl⟩
 have HBD : Hid ((P && (decide (K = n) && R)) = false) := hide (by rw [← hP, ← hK, ← hR]; have := hbad; unfold mayB at this; rw [h.1] at this; exact this)
 rw [hP] at CP
 rw [hK] at CT
 rw [hR] at CR
 clear hbad n1 n2 n3 b1 b2 b3 s1 s2 hx h hP hK hR ht
 have C1 := hide (uh CP v3)
 cases P with
 | false =>
  go_enter Tryz.func12, Tryz.ntmps12
  go_wp2_with fail
  refine (uh C1).mono ?_
  rintro e u1 ⟨rfl, d1⟩
  have ER : Hid (u1.heap[gr]? = some (.cells #[.int .i64 0, .int .i64 0, .string ⟨#[]⟩, .slice none 0 0, .slice none 0 0] 25 (0, 0))) := hide ((d1.block gr (Array.getElem?_eq_some_iff.1 (uh HM).2.2.1).1).trans (uh HM).2.2.1)
  obtain ⟨r0, r1, r2, r3, r4⟩ := block5 (uh ER)
  obtain ⟨f0, f1, f2, f3, f4⟩ := fr5 (uh ER)
  have BE := hide (uh HW u1 d1)
  clear d1 C1 CP CT CR x0 x1 x2 x3 x4 t0 t1 t2 t3 t4 t5
  go_wp2_with fail
  (try simp only [Exit.inBlock, Exit.then])
  refine bodyPost_ret (ret_ct rfl _ _ gr #[.int .i64 0, .int .i64 0, .string ⟨#[]⟩, .slice none 0 0, .slice none 0 0] _ _ rfl (set5P (uh ER) _ _ _ _ _) Tryz.underlying25 rfl size_vl) rfl ?_
  exact ⟨rfl, by first | exact set5P_below (uh BE) (uh HM).2.2.2.2 _ _ _ _ _ | (rw [← hgx]; exact set5P_below (uh BE) (uh HM).2.2.2.2 _ _ _ _ _)⟩
 | true =>
  by_cases hKn : K = n
  ·have HR : Hid (R = false) := hide (by have := uh HBD; rw [decide_eq_true hKn] at this; simpa using this)
   obtain rfl : R = false := uh HR
   subst hKn
   go_enter Tryz.func12, Tryz.ntmps12
   go_wp2_with fail
   refine (uh C1).mono ?_
   rintro e u1 ⟨rfl, d1⟩
   have C2 := hide (uh CT u1 (uh HW u1 d1))
   have D1 := hide d1
   obtain ⟨x0, x1, x2, x3, x4⟩ := block5 ((d1.block gx (Array.getElem?_eq_some_iff.1 (uh HM).2.1).1).trans (uh HM).2.1)
   clear d1 C1 CP CT t0 t1 t2 t3 t4 t5
   go_wp2_with fail
   refine (uh C2).mono ?_
   rintro e u2 ⟨rfl, d2⟩
   have D2 : Hid (Below v3.heap.size v3 u2) := hide ((uh D1).trans (d2.mono (uh D1).size))
   have C3 := hide (uh CR u2 (uh HW u2 (uh D2)))
   obtain ⟨t0, t1, t2, t3, t4, t5⟩ := block6 (((uh D2).block gt (Array.getElem?_eq_some_iff.1 (uh HM).2.2.2.1).1).trans (uh HM).2.2.2.1)
   clear d2 C2 CR D1 x0 x1 x2 x3 x4
   go_wp2_with fail
   refine (uh C3).mono ?_
   rintro e u3 ⟨rfl, d3⟩
   have D3 : Hid (Below v3.heap.size v3 u3) := hide ((uh D2).trans (d3.mono (uh D2).size))
   have ER : Hid (u3.heap[gr]? = some (.cells #[.int .i64 0, .int .i64 0, .string ⟨#[]⟩, .slice none 0 0, .slice none 0 0] 25 (0, 0))) := hide (((uh D3).block gr (Array.getElem?_eq_some_iff.1 (uh HM).2.2.1).1).trans (uh HM).2.2.1)
   obtain ⟨r0, r1, r2, r3, r4⟩ := block5 (uh ER)
   obtain ⟨f0, f1, f2, f3, f4⟩ := fr5 (uh ER)
   have BE := hide (uh HW u3 (uh D3))
   clear d3 C3 D2 t0 t1 t2 t3 t4 t5
   go_wp2_with fail
   (try simp only [Exit.inBlock, Exit.then])
   refine bodyPost_ret (ret_ct rfl _ _ gr #[.int .i64 0, .int .i64 0, .string ⟨#[]⟩, .slice none 0 0, .slice none 0 0] _ _ rfl (set5P (uh ER) _ _ _ _ _) Tryz.underlying25 rfl size_vl) rfl ?_
   exact ⟨rfl, by first | exact set5P_below (uh BE) (uh HM).2.2.2.2 _ _ _ _ _ | (rw [← hgx]; exact set5P_below (uh BE) (uh HM).2.2.2.2 _ _ _ _ _)⟩
  ·have hKb : ((n : Int) == K) = false := beq_eq_false_iff_ne.2 (fun e => hKn e.symm)
   have hKc : ¬ (n : Int) = K := fun e => hKn e.symm
   go_enter Tryz.func12, Tryz.ntmps12
   go_wp2_with fail
   refine (uh C1).mono ?_
   rintro e u1 ⟨rfl, d1⟩
   have C2 := hide (uh CT u1 (uh HW u1 d1))
   have D1 := hide d1
   obtain ⟨x0, x1, x2, x3, x4⟩ := block5 ((d1.block gx (Array.getElem?_eq_some_iff.1 (uh HM).2.1).1).trans (uh HM).2.1)
   clear d1 C1 CP CT t0 t1 t2 t3 t4 t5
   go_wp2_with fail
   refine (uh C2).mono ?_
   rintro e u2 ⟨rfl, d2⟩
   have D2 : Hid (Below v3.heap.size v3 u2) := hide ((uh D1).trans (d2.mono (uh D1).size))
   have ER : Hid (u2.heap[gr]? = some (.cells #[.int .i64 0, .int .i64 0, .string ⟨#[]⟩, .slice none 0 0, .slice none 0 0] 25 (0, 0))) := hide (((uh D2).block gr (Array.getElem?_eq_some_iff.1 (uh HM).2.2.1).1).trans (uh HM).2.2.1)
   obtain ⟨r0, r1, r2, r3, r4⟩ := block5 (uh ER)
   obtain ⟨f0, f1, f2, f3, f4⟩ := fr5 (uh ER)
   have BE := hide (uh HW u2 (uh D2))
   clear d2 C2 CR D1 x0 x1 x2 x3 x4
   go_wp2_with fail
   (try simp only [Exit.inBlock, Exit.then])
   refine bodyPost_ret (ret_ct rfl _ _ gr #[.int .i64 0, .int .i64 0, .string ⟨#[]⟩, .slice none 0 0, .slice none 0 0] _ _ rfl (set5P (uh ER) _ _ _ _ _) Tryz.underlying25 rfl size_vl) rfl ?_
   exact ⟨rfl, by first | exact set5P_below (uh BE) (uh HM).2.2.2.2 _ _ _ _ _ | (rw [← hgx]; exact set5P_below (uh BE) (uh HM).2.2.2.2 _ _ _ _ _)⟩
theorem do_unfit (op : Nat) (k0 k1 k2 : Int) (alk : Bool) (f : Nat) (hrow : opsCells.extract (op * 5) (op * 5 + 5) = #[.int .u8 k0, .int .u8 k1, .int .u8 k2, .bool alk, .func (.func f) #[] #[]]) (ex : Vl) (e0 e1 : Int) (e2 : ByteArray) (e3 : Option Addr) (e4 e5 : Nat) (e6 : Option Addr) (e7 e8 : Nat) (vs : List Vl) (al : Option Addr) (n cl B : Nat) (w : World) (ht : Tab w) (hx : IsV w B ex (.agg #[.int .i64 e0, .int .i64 e1, .string e2, .slice e3 e4 e5, .slice e6 e7 e8])) (h : ArV w B vs al n cl) (hBs : B ≤ w.heap.size) (hmay : mayB op ex vs = true) (hkd : ∀ i, 0 ≤ kdAt vs i ∧ kdAt vs i ≤ 5) (hk0 : ¬ k0 = 0 → 0 < n) (hk1 : ¬ k1 = 0 → 1 < n) (hk2 : ¬ k2 = 0 → 2 < n) (hk3 : alk = true → 1 < n) (hfit : fitsB k0 k1 k2 alk vs = false) :
  Calls Tryz.prog 12 #[.int .i64 op, .agg #[.int .i64 e0, .int .i64 e1, .string e2, .slice e3 e4 e5, .slice e6 e7 e8], .slice al n cl] w fun e w' => e = .returned (.tuple #[.agg #[.int .i64 0, .int .i64 0, .string ⟨#[]⟩, .slice none 0 0, .slice none 0 0], .int .i64 3]) ∧ Below w.heap.size w w' := by
 obtain ⟨gx, hgx⟩ : ∃ gx, w.heap.size = gx := ⟨_, rfl⟩
 obtain ⟨v1, hv1⟩ : ∃ v1, w.alloc (.cells #[.int .i64 e0, .int .i64 e1, .string e2, .slice e3 e4 e5, .slice e6 e7 e8] 25) = v1 := ⟨_, rfl⟩
 obtain ⟨gr, hgr⟩ : ∃ gr, v1.heap.size = gr := ⟨_, rfl⟩
 obtain ⟨v2, hv2⟩ : ∃ v2, v1.alloc (.cells #[.int .i64 0, .int .i64 0, .string ⟨#[]⟩, .slice none 0 0, .slice none 0 0] 25) = v2 := ⟨_, rfl⟩
 obtain ⟨gt, hgt⟩ : ∃ gt, v2.heap.size = gt := ⟨_, rfl⟩
 obtain ⟨v3, hv3⟩ : ∃ v3, v2.alloc (.cells #[.int .i64 e0, .int .i64 e1, .string e2, .slice e3 e4 e5, .slice e6 e7 e8, .slice al n cl] 50) = v3 := ⟨_, rfl⟩
 have n1 : v1.heap[gx]? = some (.cells #[.int .i64 e0, .int .i64 e1, .string e2, .slice e3 e4 e5, .slice e6 e7 e8] 25 (0, 0)) := by rw [← hv1, ← hgx]; exact heap_alloc_new w _
 have n2 : v2.heap[gr]? = some (.cells #[.int .i64 0, .int .i64 0, .string ⟨#[]⟩, .slice none 0 0, .slice none 0 0] 25 (0, 0)) := by rw [← hv2, ← hgr]; exact heap_alloc_new v1 _
 have n3 : v3.heap[gt]? = some (.cells #[.int .i64 e0, .int .i64 e1, .string e2, .slice e3 e4 e5, .slice e6 e7 e8, .slice al n cl] 50 (0, 0)) := by rw [← hv3, ← hgt]; exact heap_alloc_new v2 _
 have b1 : Below w.heap.size w v1 := by rw [← hv1]; exact (Below.refl _ _).alloc (Nat.le_refl _) _
 have b2 : Below v1.heap.size v1 v2 := by rw [← hv2]; exact (Below.refl _ _).alloc (Nat.le_refl _) _
 have b3 : Below v2.heap.size v2 v3 := by rw [← hv3]; exact (Below.refl _ _).alloc (Nat.le_refl _) _
 have s1 : v1.heap.size = w.heap.size + 1 := by rw [← hv1]; simp
 have s2 : v2.heap.size = v1.heap.size + 1 := by rw [← hv2]; simp
 have HM : Hid (Below w.heap.size w v3 ∧ v3.heap[gx]? = some (.cells #[.int .i64 e0, .int .i64 e1, .string e2, .slice e3 e4 e5, .slice e6 e7 e8] 25 (0, 0)) ∧ v3.heap[gr]? = some (.cells #[.int .i64 0, .int .i64 0, .string ⟨#[]⟩, .slice none 0 0, .slice none 0 0] 25 (0, 0)) ∧ v3.heap[gt]? = some (.cells #[.int .i64 e0, .int .i64 e1, .string e2, .slice e3 e4 e5, .slice e6 e7 e8, .slice al n cl] 50 (0, 0)) ∧ w.heap.size ≤ gr) := hide ⟨b1.trans ((b2.trans (b3.mono b2.size)).mono b1.size), (b3.block gx (by omega)).trans ((b2.block gx (by omega)).trans n1), (b3.block gr (by omega)).trans n2, n3, by omega⟩
 obtain ⟨p0, p1, p2, p3, p4⟩ := block5 ((b2.block gx (by omega)).trans n1)
 obtain ⟨x0, x1, x2, x3, x4⟩ := block5 (uh HM).2.1
 obtain ⟨t0, t1, t2, t3, t4, t5⟩ := block6 (uh HM).2.2.2.1
 have hN : n ≤ 140737488351232 := by have hn := h.1; obtain ⟨_, _, _, _, V, _, hf, _⟩ := h.2; have := hf.bl; simp only [hn] at this; exact this
 have HW : Hid (∀ u, Below v3.heap.size v3 u → Below w.heap.size w u) := hide (fun u hu => (uh HM).1.trans (hu.mono (uh HM).1.size))
 have HT : Hid (∀ u, Below w.heap.size w u → Tab u) := hide (fun u hu => ht.later hu ht.big hu.size)
 have CP : Hid (∀ u, Calls Tryz.prog 18 #[.int .i64 op] u fun e w' => e = .returned (.bool (decide ((10 : Int) ≤ (op : Int) ∧ (op : Int) ≤ 37))) ∧ Below u.heap.size u w') := hide (fun u => pure_any op u)
 have CT : Hid (∀ u, Below w.heap.size w u → Calls Tryz.prog 19 #[.int .i64 op, .int .i64 n, .agg #[.int .i64 e0, .int .i64 e1, .string e2, .slice e3 e4 e5, .slice e6 e7 e8]] u fun e w' => e = .returned (.int .i64 (takesA op n ex)) ∧ Below u.heap.size u w') := hide (fun u hu => takes_any op n ex e0 e1 e2 e3 e4 e5 e6 e7 e8 B u (uh HT u hu) (IsV.mono (hu.mono hBs) hx) (Nat.le_trans hBs hu.size))
 have CR : Hid (∀ u, Below w.heap.size w u → Calls Tryz.prog 28 #[.agg #[.int .i64 e0, .int .i64 e1, .string e2, .slice e3 e4 e5, .slice e6 e7 e8, .slice al n cl]] u fun e w' => e = .returned (.bool (rightB ex && vs.all rightB)) ∧ Below u.heap.size u w') := hide (fun u hu => tright_any ex e0 e1 e2 e3 e4 e5 e6 e7 e8 vs al n cl B u (IsV.mono (hu.mono hBs) hx) (h.later (hu.mono hBs)) (Nat.le_trans hBs hu.size))
 have HBD : Hid ((10 ≤ (op : Int) ∧ (op : Int) ≤ 37) ∧ takesA op n ex = n ∧ (rightB ex && vs.all rightB) = true) := hide (by
  have := hmay
  unfold mayB at this
  rw [h.1] at this
  simp only [Bool.and_eq_true, decide_eq_true_eq] at this
  exact ⟨this.1, this.2.1, by rw [this.2.2.1, this.2.2.2]; rfl⟩)
 rw [decide_eq_true (uh HBD).1] at CP
 rw [(uh HBD).2.1] at CT
 rw [(uh HBD).2.2] at CR
 have CF : Hid (∀ u, Below w.heap.size w u → Calls Tryz.prog 30 #[.agg #[.int .u8 k0, .int .u8 k1, .int .u8 k2, .bool alk, .func (.func f) #[] #[]], .slice al n cl] u fun e w' => e = .returned (.bool (fitsB k0 k1 k2 alk vs)) ∧ Below u.heap.size u w') := hide (fun u hu => fits_any k0 k1 k2 alk f vs al n cl B u (h.later (hu.mono hBs)) (Nat.le_trans hBs hu.size) hkd hk0 hk1 hk2 hk3)
 rw [hfit] at CF
 have HIX : Hid (∀ u, Sem.run Tryz.prog (Instr.index 56 (.agg opsCells) (.int .i64 op)) u = .ok (.agg #[.int .u8 k0, .int .u8 k1, .int .u8 k2, .bool alk, .func (.func f) #[] #[]]) u) := hide (fun u => run_index_row u 56 55 38 5 opsCells .i64 op _ Tryz.underlying56 ⟨_, Tryz.underlying55⟩ (by kernel_rfl) (by have := (uh HBD).1; omega) hrow)
 have tokI : True := trivial
 clear hmay n1 n2 n3 b1 b2 b3 s1 s2 hx h ht hkd hk0 hk1 hk2 hk3 hfit hrow
 have C1 := hide (uh CP v3)
 go_enter Tryz.func12, Tryz.ntmps12
 go_wp2_with fail
 refine (uh C1).mono ?_
 rintro e u1 ⟨rfl, d1⟩
 have C2 := hide (uh CT u1 (uh HW u1 d1))
 have D1 := hide d1
 obtain ⟨x0, x1, x2, x3, x4⟩ := block5 ((d1.block gx (Array.getElem?_eq_some_iff.1 (uh HM).2.1).1).trans (uh HM).2.1)
 clear d1 C1 CP CT t0 t1 t2 t3 t4 t5
 go_wp2_with fail
 refine (uh C2).mono ?_
 rintro e u2 ⟨rfl, d2⟩
 have D2 : Hid (Below v3.heap.size v3 u2) := hide ((uh D1).trans (d2.mono (uh D1).size))
 have C3 := hide (uh CR u2 (uh HW u2 (uh D2)))
 obtain ⟨t0, t1, t2, t3, t4, t5⟩ := block6 (((uh D2).block gt (Array.getElem?_eq_some_iff.1 (uh HM).2.2.2.1).1).trans (uh HM).2.2.2.1)
 clear d2 C2 CR D1 x0 x1 x2 x3 x4
 go_wp2_with fail
 refine (uh C3).mono ?_
 rintro e u3 ⟨rfl, d3⟩
 have D3 : Hid (Below v3.heap.size v3 u3) := hide ((uh D2).trans (d3.mono (uh D2).size))
 have C4 := hide (operations_any u3)
 clear d3 C3 D2 t0 t1 t2 t3 t4 t5
 go_wp2_with fail
 refine (uh C4).mono ?_
 rintro e u4 ⟨rfl, d4⟩
 have D4 : Hid (Below v3.heap.size v3 u4) := hide ((uh D3).trans (d4.mono (uh D3).size))
 clear d4 C4 D3
 go_upto_region 5 with (first | (have _t := tokI; refine wpList_index_v rfl 56 _ _ rfl _ (uh HIX _) ?_; clear tokI))
 obtain ⟨go, hgo⟩ : ∃ go, u4.heap.size = go := ⟨_, rfl⟩
 obtain ⟨u5, hu5⟩ : ∃ u5, u4.alloc (.cells #[.int .u8 k0, .int .u8 k1, .int .u8 k2, .bool alk, .func (.func f) #[] #[]] 55) = u5 := ⟨_, rfl⟩
 have n5 : u5.heap[go]? = some (.cells #[.int .u8 k0, .int .u8 k1, .int .u8 k2, .bool alk, .func (.func f) #[] #[]] 55 (0, 0)) := by rw [← hu5, ← hgo]; exact heap_alloc_new u4 _
 have d5 : Below u4.heap.size u4 u5 := by rw [← hu5]; exact (Below.refl _ _).alloc (Nat.le_refl _) _
 rw [hu5, hgo]
 have D5 : Hid (Below v3.heap.size v3 u5) := hide ((uh D4).trans (d5.mono (uh D4).size))
 have HO := hide n5
 have C5 := hide (uh CF u5 (uh HW u5 (uh D5)))
 obtain ⟨o0, o1, o2, o3, o4⟩ := block5 n5
 clear n5 d5 hu5 hgo D4 CF HIX
 go_wp2_with fail
 refine (uh C5).mono ?_
 rintro e u6 ⟨rfl, d6⟩
 have D6 : Hid (Below v3.heap.size v3 u6) := hide ((uh D5).trans (d6.mono (uh D5).size))
 have ER : Hid (u6.heap[gr]? = some (.cells #[.int .i64 0, .int .i64 0, .string ⟨#[]⟩, .slice none 0 0, .slice none 0 0] 25 (0, 0))) := hide (((uh D6).block gr (Array.getElem?_eq_some_iff.1 (uh HM).2.2.1).1).trans (uh HM).2.2.1)
 obtain ⟨r0, r1, r2, r3, r4⟩ := block5 (uh ER)
 obtain ⟨f0, f1, f2, f3, f4⟩ := fr5 (uh ER)
 have BE := hide (uh HW u6 (uh D6))
 clear d6 C5 D5 o0 o1 o2 o3 o4
 go_wp2_with fail
 (try simp only [Exit.inBlock, Exit.then])
 refine bodyPost_ret (ret_ct rfl _ _ gr #[.int .i64 0, .int .i64 0, .string ⟨#[]⟩, .slice none 0 0, .slice none 0 0] _ _ rfl (set5P (uh ER) _ _ _ _ _) Tryz.underlying25 rfl size_vl) rfl ?_
 exact ⟨rfl, by first | exact set5P_below (uh BE) (uh HM).2.2.2.2 _ _ _ _ _ | (rw [← hgx]; exact set5P_below (uh BE) (uh HM).2.2.2.2 _ _ _ _ _)⟩
def Aft (w : World) (Q : World → World → Prop) (w' : World) : Prop := ∃ u u', w.heap.size ≤ u.heap.size ∧ Q u u' ∧ w'.heap.size = u'.heap.size ∧ ∀ b, u.heap.size ≤ b → w'.heap[b]? = u'.heap[b]?
theorem do_go (op : Nat) (k0 k1 k2 : Int) (alk : Bool) (f : Nat) (hrow : opsCells.extract (op * 5) (op * 5 + 5) = #[.int .u8 k0, .int .u8 k1, .int .u8 k2, .bool alk, .func (.func f) #[] #[]]) (ex : Vl) (e0 e1 : Int) (e2 : ByteArray) (e3 : Option Addr) (e4 e5 : Nat) (e6 : Option Addr) (e7 e8 : Nat) (vs : List Vl) (al : Option Addr) (n cl B : Nat) (w : World) (ht : Tab w) (hx : IsV w B ex (.agg #[.int .i64 e0, .int .i64 e1, .string e2, .slice e3 e4 e5, .slice e6 e7 e8])) (h : ArV w B vs al n cl) (hBs : B ≤ w.heap.size) (hmay : mayB op ex vs = true) (hkd : ∀ i, 0 ≤ kdAt vs i ∧ kdAt vs i ≤ 5) (hk0 : ¬ k0 = 0 → 0 < n) (hk1 : ¬ k1 = 0 → 1 < n) (hk2 : ¬ k2 = 0 → 2 < n) (hk3 : alk = true → 1 < n) (hfit : fitsB k0 k1 k2 alk vs = true) (hent : ∀ args w, (callFunc f args).run Tryz.prog w = .ok (.enter f args) w)
  (Q : Int → Int → ByteArray → Option Addr → Nat → Nat → Option Addr → Nat → Nat → Int → World → World → Prop)
  (hC : ∀ u, Below w.heap.size w u → Calls Tryz.prog f #[.agg #[.int .i64 e0, .int .i64 e1, .string e2, .slice e3 e4 e5, .slice e6 e7 e8, .slice al n cl]] u fun e w' => ∃ y0 y1 y2 y3 y4 y5 y6 y7 y8 t, e = .returned (.tuple #[.agg #[.int .i64 y0, .int .i64 y1, .string y2, .slice y3 y4 y5, .slice y6 y7 y8], .int .i64 t]) ∧ Q y0 y1 y2 y3 y4 y5 y6 y7 y8 t u w' ∧ Below u.heap.size u w') :
  Calls Tryz.prog 12 #[.int .i64 op, .agg #[.int .i64 e0, .int .i64 e1, .string e2, .slice e3 e4 e5, .slice e6 e7 e8], .slice al n cl] w fun e w' => ∃ y0 y1 y2 y3 y4 y5 y6 y7 y8 t, e = .returned (.tuple #[.agg #[.int .i64 y0, .int .i64 y1, .string y2, .slice y3 y4 y5, .slice y6 y7 y8], .int .i64 t]) ∧ Aft w (Q y0 y1 y2 y3 y4 y5 y6 y7 y8 t) w' ∧ Below w.heap.size w w' := by
 obtain ⟨gx, hgx⟩ : ∃ gx, w.heap.size = gx := ⟨_, rfl⟩
 obtain ⟨v1, hv1⟩ : ∃ v1, w.alloc (.cells #[.int .i64 e0, .int .i64 e1, .string e2, .slice e3 e4 e5, .slice e6 e7 e8] 25) = v1 := ⟨_, rfl⟩
 obtain ⟨gr, hgr⟩ : ∃ gr, v1.heap.size = gr := ⟨_, rfl⟩
 obtain ⟨v2, hv2⟩ : ∃ v2, v1.alloc (.cells #[.int .i64 0, .int .i64 0, .string ⟨#[]⟩, .slice none 0 0, .slice none 0 0] 25) = v2 := ⟨_, rfl⟩
 obtain ⟨gt, hgt⟩ : ∃ gt, v2.heap.size = gt := ⟨_, rfl⟩
 obtain ⟨v3, hv3⟩ : ∃ v3, v2.alloc (.cells #[.int .i64 e0, .int .i64 e1, .string e2, .slice e3 e4 e5, .slice e6 e7 e8, .slice al n cl] 50) = v3 := ⟨_, rfl⟩
 have n1 : v1.heap[gx]? = some (.cells #[.int .i64 e0, .int .i64 e1, .string e2, .slice e3 e4 e5, .slice e6 e7 e8] 25 (0, 0)) := by rw [← hv1, ← hgx]; exact heap_alloc_new w _
 have n2 : v2.heap[gr]? = some (.cells #[.int .i64 0, .int .i64 0, .string ⟨#[]⟩, .slice none 0 0, .slice none 0 0] 25 (0, 0)) := by rw [← hv2, ← hgr]; exact heap_alloc_new v1 _
 have n3 : v3.heap[gt]? = some (.cells #[.int .i64 e0, .int .i64 e1, .string e2, .slice e3 e4 e5, .slice e6 e7 e8, .slice al n cl] 50 (0, 0)) := by rw [← hv3, ← hgt]; exact heap_alloc_new v2 _
 have b1 : Below w.heap.size w v1 := by rw [← hv1]; exact (Below.refl _ _).alloc (Nat.le_refl _) _
 have b2 : Below v1.heap.size v1 v2 := by rw [← hv2]; exact (Below.refl _ _).alloc (Nat.le_refl _) _
 have b3 : Below v2.heap.size v2 v3 := by rw [← hv3]; exact (Below.refl _ _).alloc (Nat.le_refl _) _
 have s1 : v1.heap.size = w.heap.size + 1 := by rw [← hv1]; simp
 have s2 : v2.heap.size = v1.heap.size + 1 := by rw [← hv2]; simp
 have HM : Hid (Below w.heap.size w v3 ∧ v3.heap[gx]? = some (.cells #[.int .i64 e0, .int .i64 e1, .string e2, .slice e3 e4 e5, .slice e6 e7 e8] 25 (0, 0)) ∧ v3.heap[gr]? = some (.cells #[.int .i64 0, .int .i64 0, .string ⟨#[]⟩, .slice none 0 0, .slice none 0 0] 25 (0, 0)) ∧ v3.heap[gt]? = some (.cells #[.int .i64 e0, .int .i64 e1, .string e2, .slice e3 e4 e5, .slice e6 e7 e8, .slice al n cl] 50 (0, 0)) ∧ w.heap.size ≤ gr) := hide ⟨b1.trans ((b2.trans (b3.mono b2.size)).mono b1.size), (b3.block gx (by omega)).trans ((b2.block gx (by omega)).trans n1), (b3.block gr (by omega)).trans n2, n3, by omega⟩
 obtain ⟨p0, p1, p2, p3, p4⟩ := block5 ((b2.block gx (by omega)).trans n1)
 obtain ⟨x0, x1, x2, x3, x4⟩ := block5 (uh HM).2.1
 obtain ⟨t0, t1, t2, t3, t4, t5⟩ := block6 (uh HM).2.2.2.1
 have hN : n ≤ 140737488351232 := by have hn := h.1; obtain ⟨_, _, _, _, V, _, hf, _⟩ := h.2; have := hf.bl; simp only [hn] at this; exact this
 have HW : Hid (∀ u, Below v3.heap.size v3 u → Below w.heap.size w u) := hide (fun u hu => (uh HM).1.trans (hu.mono (uh HM).1.size))
 have HT : Hid (∀ u, Below w.heap.size w u → Tab u) := hide (fun u hu => ht.later hu ht.big hu.size)
 have CP : Hid (∀ u, Calls Tryz.prog 18 #[.int .i64 op] u fun e w' => e = .returned (.bool (decide ((10 : Int) ≤ (op : Int) ∧ (op : Int) ≤ 37))) ∧ Below u.heap.size u w') := hide (fun u => pure_any op u)
 have CT : Hid (∀ u, Below w.heap.size w u → Calls Tryz.prog 19 #[.int .i64 op, .int .i64 n, .agg #[.int .i64 e0, .int .i64 e1, .string e2, .slice e3 e4 e5, .slice e6 e7 e8]] u fun e w' => e = .returned (.int .i64 (takesA op n ex)) ∧ Below u.heap.size u w') := hide (fun u hu => takes_any op n ex e0 e1 e2 e3 e4 e5 e6 e7 e8 B u (uh HT u hu) (IsV.mono (hu.mono hBs) hx) (Nat.le_trans hBs hu.size))
 have CR : Hid (∀ u, Below w.heap.size w u → Calls Tryz.prog 28 #[.agg #[.int .i64 e0, .int .i64 e1, .string e2, .slice e3 e4 e5, .slice e6 e7 e8, .slice al n cl]] u fun e w' => e = .returned (.bool (rightB ex && vs.all rightB)) ∧ Below u.heap.size u w') := hide (fun u hu => tright_any ex e0 e1 e2 e3 e4 e5 e6 e7 e8 vs al n cl B u (IsV.mono (hu.mono hBs) hx) (h.later (hu.mono hBs)) (Nat.le_trans hBs hu.size))
 have HBD : Hid ((10 ≤ (op : Int) ∧ (op : Int) ≤ 37) ∧ takesA op n ex = n ∧ (rightB ex && vs.all rightB) = true) := hide (by
  have := hmay
  unfold mayB at this
  rw [h.1] at this
  simp only [Bool.and_eq_true, decide_eq_true_eq] at this
  exact ⟨this.1, this.2.1, by rw [this.2.2.1, this.2.2.2]; rfl⟩)
 rw [decide_eq_true (uh HBD).1] at CP
 rw [(uh HBD).2.1] at CT
 rw [(uh HBD).2.2] at CR
 have CF : Hid (∀ u, Below w.heap.size w u → Calls Tryz.prog 30 #[.agg #[.int .u8 k0, .int .u8 k1, .int .u8 k2, .bool alk, .func (.func f) #[] #[]], .slice al n cl] u fun e w' => e = .returned (.bool (fitsB k0 k1 k2 alk vs)) ∧ Below u.heap.size u w') := hide (fun u hu => fits_any k0 k1 k2 alk f vs al n cl B u (h.later (hu.mono hBs)) (Nat.le_trans hBs hu.size) hkd hk0 hk1 hk2 hk3)
 rw [hfit] at CF
 have HIX : Hid (∀ u, Sem.run Tryz.prog (Instr.index 56 (.agg opsCells) (.int .i64 op)) u = .ok (.agg #[.int .u8 k0, .int .u8 k1, .int .u8 k2, .bool alk, .func (.func f) #[] #[]]) u) := hide (fun u => run_index_row u 56 55 38 5 opsCells .i64 op _ Tryz.underlying56 ⟨_, Tryz.underlying55⟩ (by kernel_rfl) (by have := (uh HBD).1; omega) hrow)
 have tokI : True := trivial
 clear hmay n1 n2 n3 b1 b2 b3 s1 s2 hx h ht hkd hk0 hk1 hk2 hk3 hfit hrow
 have C1 := hide (uh CP v3)
 go_enter Tryz.func12, Tryz.ntmps12
 go_wp2_with fail
 refine (uh C1).mono ?_
 rintro e u1 ⟨rfl, d1⟩
 have C2 := hide (uh CT u1 (uh HW u1 d1))
 have D1 := hide d1
 obtain ⟨x0, x1, x2, x3, x4⟩ := block5 ((d1.block gx (Array.getElem?_eq_some_iff.1 (uh HM).2.1).1).trans (uh HM).2.1)
 clear d1 C1 CP CT t0 t1 t2 t3 t4 t5
 go_wp2_with fail
 refine (uh C2).mono ?_
 rintro e u2 ⟨rfl, d2⟩
 have D2 : Hid (Below v3.heap.size v3 u2) := hide ((uh D1).trans (d2.mono (uh D1).size))
 have C3 := hide (uh CR u2 (uh HW u2 (uh D2)))
 obtain ⟨t0, t1, t2, t3, t4, t5⟩ := block6 (((uh D2).block gt (Array.getElem?_eq_some_iff.1 (uh HM).2.2.2.1).1).trans (uh HM).2.2.2.1)
 clear d2 C2 CR D1 x0 x1 x2 x3 x4
 go_wp2_with fail
 refine (uh C3).mono ?_
 rintro e u3 ⟨rfl, d3⟩
 have D3 : Hid (Below v3.heap.size v3 u3) := hide ((uh D2).trans (d3.mono (uh D2).size))
 have C4 := hide (operations_any u3)
 clear d3 C3 D2 t0 t1 t2 t3 t4 t5
 go_wp2_with fail
 refine (uh C4).mono ?_
 rintro e u4 ⟨rfl, d4⟩
 have D4 : Hid (Below v3.heap.size v3 u4) := hide ((uh D3).trans (d4.mono (uh D3).size))
 clear d4 C4 D3
 go_upto_region 5 with (first | (have _t := tokI; refine wpList_index_v rfl 56 _ _ rfl _ (uh HIX _) ?_; clear tokI))
 obtain ⟨go, hgo⟩ : ∃ go, u4.heap.size = go := ⟨_, rfl⟩
 obtain ⟨u5, hu5⟩ : ∃ u5, u4.alloc (.cells #[.int .u8 k0, .int .u8 k1, .int .u8 k2, .bool alk, .func (.func f) #[] #[]] 55) = u5 := ⟨_, rfl⟩
 have n5 : u5.heap[go]? = some (.cells #[.int .u8 k0, .int .u8 k1, .int .u8 k2, .bool alk, .func (.func f) #[] #[]] 55 (0, 0)) := by rw [← hu5, ← hgo]; exact heap_alloc_new u4 _
 have d5 : Below u4.heap.size u4 u5 := by rw [← hu5]; exact (Below.refl _ _).alloc (Nat.le_refl _) _
 rw [hu5, hgo]
 have D5 : Hid (Below v3.heap.size v3 u5) := hide ((uh D4).trans (d5.mono (uh D4).size))
 have HO := hide n5
 have C5 := hide (uh CF u5 (uh HW u5 (uh D5)))
 obtain ⟨o0, o1, o2, o3, o4⟩ := block5 n5
 clear n5 d5 hu5 hgo D4 CF HIX
 go_wp2_with fail
 refine (uh C5).mono ?_
 rintro e u6 ⟨rfl, d6⟩
 have D6 : Hid (Below v3.heap.size v3 u6) := hide ((uh D5).trans (d6.mono (uh D5).size))
 have C6 := hide (hC u6 (uh HW u6 (uh D6)))
 obtain ⟨o0, o1, o2, o3, o4⟩ := block5 ((d6.block go (Array.getElem?_eq_some_iff.1 (uh HO)).1).trans (uh HO))
 obtain ⟨t0, t1, t2, t3, t4, t5⟩ := block6 (((uh D6).block gt (Array.getElem?_eq_some_iff.1 (uh HM).2.2.2.1).1).trans (uh HM).2.2.2.1)
 clear d6 C5 D5 HO hC
 go_wp2_with fail
 refine (uh C6).mono ?_
 rintro e u7 ⟨y0, y1, y2, y3, y4, y5, y6, y7, y8, tr, rfl, hQ, d7⟩
 have D7 : Hid (Below v3.heap.size v3 u7) := hide ((uh D6).trans (d7.mono (uh D6).size))
 have ER : Hid (u7.heap[gr]? = some (.cells #[.int .i64 0, .int .i64 0, .string ⟨#[]⟩, .slice none 0 0, .slice none 0 0] 25 (0, 0))) := hide (((uh D7).block gr (Array.getElem?_eq_some_iff.1 (uh HM).2.2.1).1).trans (uh HM).2.2.1)
 obtain ⟨r0, r1, r2, r3, r4⟩ := block5 (uh ER)
 obtain ⟨f0, f1, f2, f3, f4⟩ := fr5 (uh ER)
 have BE := hide (uh HW u7 (uh D7))
 have HQ := hide hQ
 clear d7 C6 hQ t0 t1 t2 t3 t4 t5 o0 o1 o2 o3 o4
 go_wp2_with fail
 (try simp only [Exit.inBlock, Exit.then])
 refine bodyPost_ret (ret_ct rfl _ _ gr #[.int .i64 y0, .int .i64 y1, .string y2, .slice y3 y4 y5, .slice y6 y7 y8] _ _ rfl (set5P (uh ER) _ _ _ _ _) Tryz.underlying25 rfl size_vl) rfl ?_
 have hfr : ∀ b, b ≠ gr → (((((u7.setCell ⟨gr, 0, none⟩ (.int .i64 y0)).setCell ⟨gr, 1, none⟩ (.int .i64 y1)).setCell ⟨gr, 2, none⟩ (.string y2)).setCell ⟨gr, 3, none⟩ (.slice y3 y4 y5)).setCell ⟨gr, 4, none⟩ (.slice y6 y7 y8)).heap[b]? = u7.heap[b]? := fun b hb => by
  rw [heap_setCell_other _ _ _ _ hb, heap_setCell_other _ _ _ _ hb, heap_setCell_other _ _ _ _ hb, heap_setCell_other _ _ _ _ hb, heap_setCell_other _ _ _ _ hb]
 have hBe := set5P_below (uh BE) (uh HM).2.2.2.2 (.int .i64 y0) (.int .i64 y1) (.string y2) (.slice y3 y4 y5) (.slice y6 y7 y8)
 have hgl : gr < u6.heap.size := by
  have h1 := (Array.getElem?_eq_some_iff.1 (uh HM).2.2.1).1
  have h2 := (uh D6).size
  omega
 refine ⟨y0, y1, y2, y3, y4, y5, y6, y7, y8, tr, rfl, ⟨u6, u7, by have h1 := (uh HW u6 (uh D6)).size; first | exact h1 | (rw [← hgx]; exact h1), uh HQ, by simp, fun b hb => hfr b (by omega)⟩, by first | exact hBe | (rw [← hgx]; exact hBe)⟩
end Go.Proofs.YtgkmdjmigehmeaaGreatDoor

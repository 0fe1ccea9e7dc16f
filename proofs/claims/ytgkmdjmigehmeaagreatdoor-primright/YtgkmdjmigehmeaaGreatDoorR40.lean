/-
  Do of add, len, slice of any values (prim); that slice takes apart what add put together; conditions: the package's variables.
-/
import Derived.Test.YtgkmdjmigehmeaaGreatDoorR38
import Derived.Test.YtgkmdjmigehmeaaGreatDoorR39
import Derived.Test.YtgkmdjmigehmeaaGreatDoorR12
import Derived.Test.YtgkmdjmigehmeaaGreatDoorR08
import Derived.Test.YtgkmdjmigehmeaaGreatDoorR37
import Derived.Test.YtgkmdjmigehmeaaGreatDoorR34
namespace Go.Proofs.YtgkmdjmigehmeaaGreatDoor
set_option linter.unusedVariables false
set_option linter.unusedSimpArgs false
set_option maxRecDepth 100000
set_option maxHeartbeats 16000000
open Go.RowKit Go.Shelf
theorem op_bad {w : World} {e : Ending} {w' : World} (h : e = .returned (.tuple #[.agg #[.int .i64 0, .int .i64 0, .string ⟨#[]⟩, .slice none 0 0, .slice none 0 0], .int .i64 3]) ∧ Below w.heap.size w w') : OpPost w (vlz, 3) e w' := by
 obtain ⟨rfl, b⟩ := h
 exact ⟨_, _, _, _, _, _, _, _, _, _, rfl, ⟨rfl, leaf_isQ _ _ 0 0 _ (by omega) (by omega) (by rw [e0sP]; omega)⟩, b⟩
theorem do_run (op : Nat) (k0 k1 k2 : Int) (alk : Bool) (f : Nat) (hrow : opsCells.extract (op * 5) (op * 5 + 5) = #[.int .u8 k0, .int .u8 k1, .int .u8 k2, .bool alk, .func (.func f) #[] #[]]) (ex : Vl) (e0 e1 : Int) (e2 : ByteArray) (e3 : Option Addr) (e4 e5 : Nat) (e6 : Option Addr) (e7 e8 : Nat) (vs : List Vl) (al : Option Addr) (n cl B : Nat) (w : World) (ht : Tab w) (hx : IsV w B ex (.agg #[.int .i64 e0, .int .i64 e1, .string e2, .slice e3 e4 e5, .slice e6 e7 e8])) (h : ArV w B vs al n cl) (hBs : B ≤ w.heap.size) (hmay : mayB op ex vs = true) (hkd : ∀ i, 0 ≤ kdAt vs i ∧ kdAt vs i ≤ 5) (hk0 : ¬ k0 = 0 → 0 < n) (hk1 : ¬ k1 = 0 → 1 < n) (hk2 : ¬ k2 = 0 → 2 < n) (hk3 : alk = true → 1 < n) (hfit : fitsB k0 k1 k2 alk vs = true) (hent : ∀ args w, (callFunc f args).run Tryz.prog w = .ok (.enter f args) w) (r : Vl × Int)
  (hC : ∀ u, Below w.heap.size w u → Calls Tryz.prog f #[.agg #[.int .i64 e0, .int .i64 e1, .string e2, .slice e3 e4 e5, .slice e6 e7 e8, .slice al n cl]] u fun e w' => OpPost u r e w') :
  Calls Tryz.prog 12 #[.int .i64 op, .agg #[.int .i64 e0, .int .i64 e1, .string e2, .slice e3 e4 e5, .slice e6 e7 e8], .slice al n cl] w fun e w' => OpPost w r e w' := by
 refine (do_go op k0 k1 k2 alk f hrow ex e0 e1 e2 e3 e4 e5 e6 e7 e8 vs al n cl B w ht hx h hBs hmay hkd hk0 hk1 hk2 hk3 hfit hent (fun y0 y1 y2 y3 y4 y5 y6 y7 y8 t u u' => t = r.2 ∧ IsQ u' (fun b => u.heap.size ≤ b ∧ b < u'.heap.size) r.1 (.agg #[.int .i64 y0, .int .i64 y1, .string y2, .slice y3 y4 y5, .slice y6 y7 y8])) hC).mono ?_
 rintro e w' ⟨y0, y1, y2, y3, y4, y5, y6, y7, y8, t, rfl, ⟨u, u', h1, ⟨ht, hq⟩, h2, h3⟩, b⟩
 exact ⟨_, _, _, _, _, _, _, _, _, _, rfl, ⟨ht, hq.to (fun b hb => h3 b hb.1) (fun b hb => ⟨Nat.le_trans h1 hb.1, by rw [h2]; exact hb.2⟩)⟩, b⟩
theorem kd_list {vs : List Vl} (h : ∀ v ∈ vs, rightB v = true) (i : Nat) : 0 ≤ kdAt vs i ∧ kdAt vs i ≤ 5 := by
 unfold kdAt
 cases hi : vs[i]? with
 | none => simp
 | some v => exact right_kind (h v (List.mem_of_getElem? hi))
theorem fit_add2 {x y : Vl} (hx : rightB x = true) (h : fitsB 28 0 0 true [x, y] = true) : (x.kind = 2 ∨ x.kind = 3 ∨ x.kind = 4) ∧ x.kind = y.kind := by
 obtain ⟨k0, k1, _⟩ := kdAt_two x y
 have hk := right_kind hx
 unfold fitsB fit1 at h
 rw [k0, k1] at h
 simp only [Bool.and_eq_true, Bool.or_eq_true, beq_iff_eq, Bool.not_eq_true'] at h
 refine ⟨?_, by have := h.2; simpa using this⟩
 have hb : bitK 28 x.kind = true := by
  rcases h.1.1.1 with e | e
  ·cases e
  ·exact e
 rcases (show x.kind = 0 ∨ x.kind = 1 ∨ x.kind = 2 ∨ x.kind = 3 ∨ x.kind = 4 ∨ x.kind = 5 by omega) with e | e | e | e | e | e
 ·rw [e] at hb; exact absurd hb (by rw [show bitK 28 0 = false by kernel_rfl]; simp)
 ·rw [e] at hb; exact absurd hb (by rw [show bitK 28 1 = false by kernel_rfl]; simp)
 ·exact Or.inl e
 ·exact Or.inr (Or.inl e)
 ·exact Or.inr (Or.inr e)
 ·rw [e] at hb; exact absurd hb (by rw [show bitK 28 5 = false by kernel_rfl]; simp)
theorem abort_op (e0 e1 : Int) (e2 : ByteArray) (e3 : Option Addr) (e4 e5 : Nat) (e6 : Option Addr) (e7 e8 : Nat) (al : Option Addr) (n cl : Nat) (w : World) :
  Calls Tryz.prog 75 #[.agg #[.int .i64 e0, .int .i64 e1, .string e2, .slice e3 e4 e5, .slice e6 e7 e8, .slice al n cl]] w fun e w' => OpPost w (vlz, 8) e w' := by
 obtain ⟨gb, hgb⟩ : ∃ gb, w.heap.size = gb := ⟨_, rfl⟩
 obtain ⟨v1, hv1⟩ : ∃ v1, w.alloc (.cells #[.int .i64 e0, .int .i64 e1, .string e2, .slice e3 e4 e5, .slice e6 e7 e8, .slice al n cl] 50) = v1 := ⟨_, rfl⟩
 obtain ⟨gr, hgr⟩ : ∃ gr, v1.heap.size = gr := ⟨_, rfl⟩
 obtain ⟨v2, hv2⟩ : ∃ v2, v1.alloc (.cells #[.int .i64 0, .int .i64 0, .string ⟨#[]⟩, .slice none 0 0, .slice none 0 0] 25) = v2 := ⟨_, rfl⟩
 have n1 : v1.heap[gb]? = some (.cells #[.int .i64 e0, .int .i64 e1, .string e2, .slice e3 e4 e5, .slice e6 e7 e8, .slice al n cl] 50 (0, 0)) := by rw [← hv1, ← hgb]; exact heap_alloc_new w _
 have n2 : v2.heap[gr]? = some (.cells #[.int .i64 0, .int .i64 0, .string ⟨#[]⟩, .slice none 0 0, .slice none 0 0] 25 (0, 0)) := by rw [← hv2, ← hgr]; exact heap_alloc_new v1 _
 have b1 : Below w.heap.size w v1 := by rw [← hv1]; exact (Below.refl _ _).alloc (Nat.le_refl _) _
 have b2 : Below v1.heap.size v1 v2 := by rw [← hv2]; exact (Below.refl _ _).alloc (Nat.le_refl _) _
 have s1 : v1.heap.size = w.heap.size + 1 := by rw [← hv1]; simp
 have HM : Hid (Below w.heap.size w v2 ∧ v2.heap[gb]? = some (.cells #[.int .i64 e0, .int .i64 e1, .string e2, .slice e3 e4 e5, .slice e6 e7 e8, .slice al n cl] 50 (0, 0)) ∧ v2.heap[gr]? = some (.cells #[.int .i64 0, .int .i64 0, .string ⟨#[]⟩, .slice none 0 0, .slice none 0 0] 25 (0, 0)) ∧ w.heap.size ≤ gr ∧ gr < v2.heap.size) := hide ⟨b1.trans (b2.mono b1.size), (b2.block gb (by omega)).trans n1, n2, by omega, (Array.getElem?_eq_some_iff.1 n2).1⟩
 obtain ⟨t0, t1, t2, t3, t4, t5⟩ := block6 (uh HM).2.1
 have CN := hide (trap_op 8 v2)
 clear n1 n2 b1 b2 s1
 go_enter Tryz.func75, Tryz.ntmps75
 go_wp2_with fail
 refine (uh CN).mono ?_
 rintro e W9 ⟨y0, y1, y2, y3, y4, y5, y6, y7, y8, t, rfl, ⟨ht, q5⟩, d5⟩
 have X5 : Below v2.heap.size v2 W9 := (Below.refl v2.heap.size v2).trans (d5.mono (Below.refl v2.heap.size v2).size)
 have ER : Hid (W9.heap[gr]? = some (.cells #[.int .i64 0, .int .i64 0, .string ⟨#[]⟩, .slice none 0 0, .slice none 0 0] 25 (0, 0))) := hide ((X5.block gr (uh HM).2.2.2.2).trans (uh HM).2.2.1)
 obtain ⟨r0z, r1z, r2z, r3z, r4z⟩ := block5 (uh ER)
 obtain ⟨f0, f1, f2, f3, f4⟩ := fr5 (uh ER)
 have HF9 : Hid (IsQ W9 (fun b => v2.heap.size ≤ b ∧ b < W9.heap.size) (vlz, (8 : Int)).1 (.agg #[.int .i64 y0, .int .i64 y1, .string y2, .slice y3 y4 y5, .slice y6 y7 y8]) ∧ t = (vlz, (8 : Int)).2 ∧ Below v2.heap.size v2 W9) := hide ⟨q5.weak (fun b hb => ⟨Nat.le_trans (Below.refl v2.heap.size v2).size hb.1, hb.2⟩), ht, X5⟩
 clear q5 d5 X5 ht CN t0 t1 t2 t3 t4 t5
 go_wp2_with fail
 (try simp only [Exit.inBlock, Exit.then])
 refine bodyPost_ret (ret_ct rfl _ _ gr #[.int .i64 y0, .int .i64 y1, .string y2, .slice y3 y4 y5, .slice y6 y7 y8] _ _ rfl (set5P (uh ER) _ _ _ _ _) Tryz.underlying25 rfl size_vl) rfl ?_
 exact op_fin (uh HM).1 (uh HM).2.2.2.1 (uh HM).2.2.2.2 (uh HF9).2.2 (uh HF9).1 (uh HF9).2.1
theorem array_op (e0 e1 : Int) (e2 : ByteArray) (e3 : Option Addr) (e4 e5 : Nat) (e6 : Option Addr) (e7 e8 : Nat) (vs : List Vl) (al : Option Addr) (n cl B : Nat) (w : World) (h : ArV w B vs al n cl) (hBs : B ≤ w.heap.size) :
  Calls Tryz.prog 61 #[.agg #[.int .i64 e0, .int .i64 e1, .string e2, .slice e3 e4 e5, .slice e6 e7 e8, .slice al n cl]] w fun e w' => OpPost w (szV (.mk 4 0 ⟨#[]⟩ vs [])) e w' := by
 obtain ⟨gb, hgb⟩ : ∃ gb, w.heap.size = gb := ⟨_, rfl⟩
 obtain ⟨v1, hv1⟩ : ∃ v1, w.alloc (.cells #[.int .i64 e0, .int .i64 e1, .string e2, .slice e3 e4 e5, .slice e6 e7 e8, .slice al n cl] 50) = v1 := ⟨_, rfl⟩
 obtain ⟨gr, hgr⟩ : ∃ gr, v1.heap.size = gr := ⟨_, rfl⟩
 obtain ⟨v2, hv2⟩ : ∃ v2, v1.alloc (.cells #[.int .i64 0, .int .i64 0, .string ⟨#[]⟩, .slice none 0 0, .slice none 0 0] 25) = v2 := ⟨_, rfl⟩
 have n1 : v1.heap[gb]? = some (.cells #[.int .i64 e0, .int .i64 e1, .string e2, .slice e3 e4 e5, .slice e6 e7 e8, .slice al n cl] 50 (0, 0)) := by rw [← hv1, ← hgb]; exact heap_alloc_new w _
 have n2 : v2.heap[gr]? = some (.cells #[.int .i64 0, .int .i64 0, .string ⟨#[]⟩, .slice none 0 0, .slice none 0 0] 25 (0, 0)) := by rw [← hv2, ← hgr]; exact heap_alloc_new v1 _
 have b1 : Below w.heap.size w v1 := by rw [← hv1]; exact (Below.refl _ _).alloc (Nat.le_refl _) _
 have b2 : Below v1.heap.size v1 v2 := by rw [← hv2]; exact (Below.refl _ _).alloc (Nat.le_refl _) _
 have s1 : v1.heap.size = w.heap.size + 1 := by rw [← hv1]; simp
 have HM : Hid (Below w.heap.size w v2 ∧ v2.heap[gb]? = some (.cells #[.int .i64 e0, .int .i64 e1, .string e2, .slice e3 e4 e5, .slice e6 e7 e8, .slice al n cl] 50 (0, 0)) ∧ v2.heap[gr]? = some (.cells #[.int .i64 0, .int .i64 0, .string ⟨#[]⟩, .slice none 0 0, .slice none 0 0] 25 (0, 0)) ∧ w.heap.size ≤ gr ∧ gr < v2.heap.size) := hide ⟨b1.trans (b2.mono b1.size), (b2.block gb (by omega)).trans n1, n2, by omega, (Array.getElem?_eq_some_iff.1 n2).1⟩
 obtain ⟨t0, t1, t2, t3, t4, t5⟩ := block6 (uh HM).2.1
 have CN := hide (sized_op (.mk 4 0 ⟨#[]⟩ vs []) _ B v2 (h.later ((uh HM).1.mono hBs)).2 (Nat.le_trans hBs (uh HM).1.size))
 obtain ⟨R, hR⟩ : ∃ R, szV (.mk 4 0 ⟨#[]⟩ vs []) = R := ⟨_, rfl⟩
 rw [hR] at CN ⊢
 clear n1 n2 b1 b2 s1 h hR
 go_enter Tryz.func61, Tryz.ntmps61
 go_wp2_with fail
 refine (uh CN).mono ?_
 rintro e W9 ⟨y0, y1, y2, y3, y4, y5, y6, y7, y8, t, rfl, ⟨ht, q5⟩, d5⟩
 have X5 : Below v2.heap.size v2 W9 := (Below.refl v2.heap.size v2).trans (d5.mono (Below.refl v2.heap.size v2).size)
 have ER : Hid (W9.heap[gr]? = some (.cells #[.int .i64 0, .int .i64 0, .string ⟨#[]⟩, .slice none 0 0, .slice none 0 0] 25 (0, 0))) := hide ((X5.block gr (uh HM).2.2.2.2).trans (uh HM).2.2.1)
 obtain ⟨r0z, r1z, r2z, r3z, r4z⟩ := block5 (uh ER)
 obtain ⟨f0, f1, f2, f3, f4⟩ := fr5 (uh ER)
 have HF9 : Hid (IsQ W9 (fun b => v2.heap.size ≤ b ∧ b < W9.heap.size) R.1 (.agg #[.int .i64 y0, .int .i64 y1, .string y2, .slice y3 y4 y5, .slice y6 y7 y8]) ∧ t = R.2 ∧ Below v2.heap.size v2 W9) := hide ⟨q5.weak (fun b hb => ⟨Nat.le_trans (Below.refl v2.heap.size v2).size hb.1, hb.2⟩), ht, X5⟩
 clear q5 d5 X5 ht CN t0 t1 t2 t3 t4 t5
 go_wp2_with fail
 (try simp only [Exit.inBlock, Exit.then])
 refine bodyPost_ret (ret_ct rfl _ _ gr #[.int .i64 y0, .int .i64 y1, .string y2, .slice y3 y4 y5, .slice y6 y7 y8] _ _ rfl (set5P (uh ER) _ _ _ _ _) Tryz.underlying25 rfl size_vl) rfl ?_
 exact op_fin (uh HM).1 (uh HM).2.2.2.1 (uh HM).2.2.2.2 (uh HF9).2.2 (uh HF9).1 (uh HF9).2.1
theorem kind_op (e0 e1 : Int) (e2 : ByteArray) (e3 : Option Addr) (e4 e5 : Nat) (e6 : Option Addr) (e7 e8 : Nat) (a : Addr) (n cl : Nat) (p0 p1 : Int) (p2 : ByteArray) (p3 : Option Addr) (p4 p5 : Nat) (p6 : Option Addr) (p7 p8 : Nat) (x : Vl) (B : Nat) (w : World) (hn : 1 ≤ n) (ha : a.block < w.heap.size) (h00 : w.cell? a = some (.int .i64 p0)) (h01 : w.cell? ⟨a.block, a.off + 1, none⟩ = some (.int .i64 p1)) (h02 : w.cell? ⟨a.block, a.off + 2, none⟩ = some (.string p2)) (h03 : w.cell? ⟨a.block, a.off + 3, none⟩ = some (.slice p3 p4 p5)) (h04 : w.cell? ⟨a.block, a.off + 4, none⟩ = some (.slice p6 p7 p8)) (hx : IsV w B x (.agg #[.int .i64 p0, .int .i64 p1, .string p2, .slice p3 p4 p5, .slice p6 p7 p8])) (hBs : B ≤ w.heap.size) (hr : rightB x = true) :
  Calls Tryz.prog 73 #[.agg #[.int .i64 e0, .int .i64 e1, .string e2, .slice e3 e4 e5, .slice e6 e7 e8, .slice (some a) n cl]] w fun e w' => OpPost w (nm x.kind, 0) e w' := by
 obtain ⟨gb, hgb⟩ : ∃ gb, w.heap.size = gb := ⟨_, rfl⟩
 obtain ⟨v1, hv1⟩ : ∃ v1, w.alloc (.cells #[.int .i64 e0, .int .i64 e1, .string e2, .slice e3 e4 e5, .slice e6 e7 e8, .slice (some a) n cl] 50) = v1 := ⟨_, rfl⟩
 obtain ⟨gr, hgr⟩ : ∃ gr, v1.heap.size = gr := ⟨_, rfl⟩
 obtain ⟨v2, hv2⟩ : ∃ v2, v1.alloc (.cells #[.int .i64 0, .int .i64 0, .string ⟨#[]⟩, .slice none 0 0, .slice none 0 0] 25) = v2 := ⟨_, rfl⟩
 have n1 : v1.heap[gb]? = some (.cells #[.int .i64 e0, .int .i64 e1, .string e2, .slice e3 e4 e5, .slice e6 e7 e8, .slice (some a) n cl] 50 (0, 0)) := by rw [← hv1, ← hgb]; exact heap_alloc_new w _
 have n2 : v2.heap[gr]? = some (.cells #[.int .i64 0, .int .i64 0, .string ⟨#[]⟩, .slice none 0 0, .slice none 0 0] 25 (0, 0)) := by rw [← hv2, ← hgr]; exact heap_alloc_new v1 _
 have b1 : Below w.heap.size w v1 := by rw [← hv1]; exact (Below.refl _ _).alloc (Nat.le_refl _) _
 have b2 : Below v1.heap.size v1 v2 := by rw [← hv2]; exact (Below.refl _ _).alloc (Nat.le_refl _) _
 have s1 : v1.heap.size = w.heap.size + 1 := by rw [← hv1]; simp
 have HM : Hid (Below w.heap.size w v2 ∧ v2.heap[gb]? = some (.cells #[.int .i64 e0, .int .i64 e1, .string e2, .slice e3 e4 e5, .slice e6 e7 e8, .slice (some a) n cl] 50 (0, 0)) ∧ v2.heap[gr]? = some (.cells #[.int .i64 0, .int .i64 0, .string ⟨#[]⟩, .slice none 0 0, .slice none 0 0] 25 (0, 0)) ∧ w.heap.size ≤ gr ∧ gr < v2.heap.size) := hide ⟨b1.trans (b2.mono b1.size), (b2.block gb (by omega)).trans n1, n2, by omega, (Array.getElem?_eq_some_iff.1 n2).1⟩
 obtain ⟨t0, t1, t2, t3, t4, t5⟩ := block6 (uh HM).2.1
 have hA00 : v2.cell? a = some (.int .i64 p0) := ((uh HM).1.cell (p := a) ha).trans h00
 have hA01 : v2.cell? ⟨a.block, a.off + 1, none⟩ = some (.int .i64 p1) := ((uh HM).1.cell (p := ⟨a.block, a.off + 1, none⟩) ha).trans h01
 have hA02 : v2.cell? ⟨a.block, a.off + 2, none⟩ = some (.string p2) := ((uh HM).1.cell (p := ⟨a.block, a.off + 2, none⟩) ha).trans h02
 have hA03 : v2.cell? ⟨a.block, a.off + 3, none⟩ = some (.slice p3 p4 p5) := ((uh HM).1.cell (p := ⟨a.block, a.off + 3, none⟩) ha).trans h03
 have hA04 : v2.cell? ⟨a.block, a.off + 4, none⟩ = some (.slice p6 p7 p8) := ((uh HM).1.cell (p := ⟨a.block, a.off + 4, none⟩) ha).trans h04
 have hk : p0 = x.kind := by
  obtain ⟨k1, n1, s1, l1, ks1⟩ := x
  exact (IsP.at hx).1
 have hb := right_kind hr
 rw [← hk] at hb ⊢
 have hl0 : (0 : Int) < (n : Int) := by omega
 have CN := hide (number_op p0 v2 (by omega))
 clear n1 n2 b1 b2 s1 h00 h01 h02 h03 h04 hx hr hk
 go_enter Tryz.func73, Tryz.ntmps73
 go_wp2_with fail
 refine (uh CN).mono ?_
 rintro e W9 ⟨y0, y1, y2, y3, y4, y5, y6, y7, y8, t, rfl, ⟨ht, q5⟩, d5⟩
 have X5 : Below v2.heap.size v2 W9 := (Below.refl v2.heap.size v2).trans (d5.mono (Below.refl v2.heap.size v2).size)
 have ER : Hid (W9.heap[gr]? = some (.cells #[.int .i64 0, .int .i64 0, .string ⟨#[]⟩, .slice none 0 0, .slice none 0 0] 25 (0, 0))) := hide ((X5.block gr (uh HM).2.2.2.2).trans (uh HM).2.2.1)
 obtain ⟨r0z, r1z, r2z, r3z, r4z⟩ := block5 (uh ER)
 obtain ⟨f0, f1, f2, f3, f4⟩ := fr5 (uh ER)
 have HF9 : Hid (IsQ W9 (fun b => v2.heap.size ≤ b ∧ b < W9.heap.size) (nm p0, (0 : Int)).1 (.agg #[.int .i64 y0, .int .i64 y1, .string y2, .slice y3 y4 y5, .slice y6 y7 y8]) ∧ t = (nm p0, (0 : Int)).2 ∧ Below v2.heap.size v2 W9) := hide ⟨q5.weak (fun b hb => ⟨Nat.le_trans (Below.refl v2.heap.size v2).size hb.1, hb.2⟩), ht, X5⟩
 clear q5 d5 X5 ht CN t0 t1 t2 t3 t4 t5 hA00 hA01 hA02 hA03 hA04
 go_wp2_with fail
 (try simp only [Exit.inBlock, Exit.then])
 refine bodyPost_ret (ret_ct rfl _ _ gr #[.int .i64 y0, .int .i64 y1, .string y2, .slice y3 y4 y5, .slice y6 y7 y8] _ _ rfl (set5P (uh ER) _ _ _ _ _) Tryz.underlying25 rfl size_vl) rfl ?_
 exact op_fin (uh HM).1 (uh HM).2.2.2.1 (uh HM).2.2.2.2 (uh HF9).2.2 (uh HF9).1 (uh HF9).2.1
theorem not_op (e0 e1 : Int) (e2 : ByteArray) (e3 : Option Addr) (e4 e5 : Nat) (e6 : Option Addr) (e7 e8 : Nat) (a : Addr) (n cl : Nat) (p0 p1 : Int) (p2 : ByteArray) (p3 : Option Addr) (p4 p5 : Nat) (p6 : Option Addr) (p7 p8 : Nat) (x : Vl) (B : Nat) (w : World) (hn : 1 ≤ n) (ha : a.block < w.heap.size) (h00 : w.cell? a = some (.int .i64 p0)) (h01 : w.cell? ⟨a.block, a.off + 1, none⟩ = some (.int .i64 p1)) (h02 : w.cell? ⟨a.block, a.off + 2, none⟩ = some (.string p2)) (h03 : w.cell? ⟨a.block, a.off + 3, none⟩ = some (.slice p3 p4 p5)) (h04 : w.cell? ⟨a.block, a.off + 4, none⟩ = some (.slice p6 p7 p8)) (hx : IsV w B x (.agg #[.int .i64 p0, .int .i64 p1, .string p2, .slice p3 p4 p5, .slice p6 p7 p8])) (hBs : B ≤ w.heap.size) :
  Calls Tryz.prog 54 #[.agg #[.int .i64 e0, .int .i64 e1, .string e2, .slice e3 e4 e5, .slice e6 e7 e8, .slice (some a) n cl]] w fun e w' => OpPost w (tv (x.n == 0), 0) e w' := by
 obtain ⟨gb, hgb⟩ : ∃ gb, w.heap.size = gb := ⟨_, rfl⟩
 obtain ⟨v1, hv1⟩ : ∃ v1, w.alloc (.cells #[.int .i64 e0, .int .i64 e1, .string e2, .slice e3 e4 e5, .slice e6 e7 e8, .slice (some a) n cl] 50) = v1 := ⟨_, rfl⟩
 obtain ⟨gr, hgr⟩ : ∃ gr, v1.heap.size = gr := ⟨_, rfl⟩
 obtain ⟨v2, hv2⟩ : ∃ v2, v1.alloc (.cells #[.int .i64 0, .int .i64 0, .string ⟨#[]⟩, .slice none 0 0, .slice none 0 0] 25) = v2 := ⟨_, rfl⟩
 have n1 : v1.heap[gb]? = some (.cells #[.int .i64 e0, .int .i64 e1, .string e2, .slice e3 e4 e5, .slice e6 e7 e8, .slice (some a) n cl] 50 (0, 0)) := by rw [← hv1, ← hgb]; exact heap_alloc_new w _
 have n2 : v2.heap[gr]? = some (.cells #[.int .i64 0, .int .i64 0, .string ⟨#[]⟩, .slice none 0 0, .slice none 0 0] 25 (0, 0)) := by rw [← hv2, ← hgr]; exact heap_alloc_new v1 _
 have b1 : Below w.heap.size w v1 := by rw [← hv1]; exact (Below.refl _ _).alloc (Nat.le_refl _) _
 have b2 : Below v1.heap.size v1 v2 := by rw [← hv2]; exact (Below.refl _ _).alloc (Nat.le_refl _) _
 have s1 : v1.heap.size = w.heap.size + 1 := by rw [← hv1]; simp
 have HM : Hid (Below w.heap.size w v2 ∧ v2.heap[gb]? = some (.cells #[.int .i64 e0, .int .i64 e1, .string e2, .slice e3 e4 e5, .slice e6 e7 e8, .slice (some a) n cl] 50 (0, 0)) ∧ v2.heap[gr]? = some (.cells #[.int .i64 0, .int .i64 0, .string ⟨#[]⟩, .slice none 0 0, .slice none 0 0] 25 (0, 0)) ∧ w.heap.size ≤ gr ∧ gr < v2.heap.size) := hide ⟨b1.trans (b2.mono b1.size), (b2.block gb (by omega)).trans n1, n2, by omega, (Array.getElem?_eq_some_iff.1 n2).1⟩
 obtain ⟨t0, t1, t2, t3, t4, t5⟩ := block6 (uh HM).2.1
 have hA00 : v2.cell? a = some (.int .i64 p0) := ((uh HM).1.cell (p := a) ha).trans h00
 have hA01 : v2.cell? ⟨a.block, a.off + 1, none⟩ = some (.int .i64 p1) := ((uh HM).1.cell (p := ⟨a.block, a.off + 1, none⟩) ha).trans h01
 have hA02 : v2.cell? ⟨a.block, a.off + 2, none⟩ = some (.string p2) := ((uh HM).1.cell (p := ⟨a.block, a.off + 2, none⟩) ha).trans h02
 have hA03 : v2.cell? ⟨a.block, a.off + 3, none⟩ = some (.slice p3 p4 p5) := ((uh HM).1.cell (p := ⟨a.block, a.off + 3, none⟩) ha).trans h03
 have hA04 : v2.cell? ⟨a.block, a.off + 4, none⟩ = some (.slice p6 p7 p8) := ((uh HM).1.cell (p := ⟨a.block, a.off + 4, none⟩) ha).trans h04
 have hk : p1 = x.n := by
  obtain ⟨k1, n1, s1, l1, ks1⟩ := x
  exact (IsP.at hx).2.1
 rw [← hk]
 have hl0 : (0 : Int) < (n : Int) := by omega
 have CN := hide (truth_op (p1 == 0) v2)
 clear n1 n2 b1 b2 s1 h00 h01 h02 h03 h04 hx hk
 go_enter Tryz.func54, Tryz.ntmps54
 go_wp2_with fail
 refine (uh CN).mono ?_
 rintro e W9 ⟨y0, y1, y2, y3, y4, y5, y6, y7, y8, t, rfl, ⟨ht, q5⟩, d5⟩
 have X5 : Below v2.heap.size v2 W9 := (Below.refl v2.heap.size v2).trans (d5.mono (Below.refl v2.heap.size v2).size)
 have ER : Hid (W9.heap[gr]? = some (.cells #[.int .i64 0, .int .i64 0, .string ⟨#[]⟩, .slice none 0 0, .slice none 0 0] 25 (0, 0))) := hide ((X5.block gr (uh HM).2.2.2.2).trans (uh HM).2.2.1)
 obtain ⟨r0z, r1z, r2z, r3z, r4z⟩ := block5 (uh ER)
 obtain ⟨f0, f1, f2, f3, f4⟩ := fr5 (uh ER)
 have HF9 : Hid (IsQ W9 (fun b => v2.heap.size ≤ b ∧ b < W9.heap.size) (tv (p1 == 0), (0 : Int)).1 (.agg #[.int .i64 y0, .int .i64 y1, .string y2, .slice y3 y4 y5, .slice y6 y7 y8]) ∧ t = (tv (p1 == 0), (0 : Int)).2 ∧ Below v2.heap.size v2 W9) := hide ⟨q5.weak (fun b hb => ⟨Nat.le_trans (Below.refl v2.heap.size v2).size hb.1, hb.2⟩), ht, X5⟩
 clear q5 d5 X5 ht CN t0 t1 t2 t3 t4 t5 hA00 hA01 hA02 hA03 hA04
 go_wp2_with fail
 (try simp only [Exit.inBlock, Exit.then])
 refine bodyPost_ret (ret_ct rfl _ _ gr #[.int .i64 y0, .int .i64 y1, .string y2, .slice y3 y4 y5, .slice y6 y7 y8] _ _ rfl (set5P (uh ER) _ _ _ _ _) Tryz.underlying25 rfl size_vl) rfl ?_
 exact op_fin (uh HM).1 (uh HM).2.2.2.1 (uh HM).2.2.2.2 (uh HF9).2.2 (uh HF9).1 (uh HF9).2.1
end Go.Proofs.YtgkmdjmigehmeaaGreatDoor

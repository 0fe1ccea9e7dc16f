/-
  eq to ge of any two values (prim), and how a law asks for them; conditions: the package's variables.
-/
import Derived.Test.YtgkmdjmigehmeaaGreatDoorR34
import Derived.Test.YtgkmdjmigehmeaaGreatDoorR04
namespace Go.Proofs.YtgkmdjmigehmeaaGreatDoor
set_option linter.unusedVariables false
set_option linter.unusedSimpArgs false
set_option maxRecDepth 100000
set_option maxHeartbeats 16000000
open Go.RowKit Go.Shelf
theorem below_drew_to {B : Nat} {a w : World} (h : Below B a w) : Below B a w.drew := ⟨h.os, h.tape, h.output, h.size, h.block⟩
def tN (b : Bool) : Int := if b then 1 else 0
theorem truthv_any (b : Bool) (w : World) : Calls Tryz.prog 102 #[.bool b] w fun e w' => e = .returned (.tuple #[.agg #[.int .i64 1, .int .i64 (tN b), .string ⟨#[]⟩, .slice none 0 0, .slice none 0 0], .int .i64 0]) ∧ Below w.heap.size w w' := by
 cases b with
 | true =>
  go_enter Tryz.func102, Tryz.ntmps102
  go_wp2_with fail
  (try simp only [Exit.inBlock, Exit.then])
  refine bodyPost_ret (ret_ct rfl _ _ w.heap.size #[.int .i64 1, .int .i64 (tN true), .string ⟨#[]⟩, .slice none 0 0, .slice none 0 0] _ _ rfl (heap_alloc_new w _) Tryz.underlying25 rfl size_vl) rfl ?_
  exact ⟨rfl, (Below.refl _ _).alloc (Nat.le_refl _) _⟩
 | false =>
  go_enter Tryz.func102, Tryz.ntmps102
  go_wp2_with fail
  (try simp only [Exit.inBlock, Exit.then])
  refine bodyPost_ret (ret_ct rfl _ _ w.heap.size #[.int .i64 1, .int .i64 (tN false), .string ⟨#[]⟩, .slice none 0 0, .slice none 0 0] _ _ rfl (heap_alloc_new w _) Tryz.underlying25 rfl size_vl) rfl ?_
  exact ⟨rfl, (Below.refl _ _).alloc (Nat.le_refl _) _⟩
theorem torder_any (e0 e1 : Int) (e2 : ByteArray) (e3 : Option Addr) (e4 e5 : Nat) (e6 : Option Addr) (e7 e8 : Nat) (a : Addr) (n cl : Nat) (p0 p1 : Int) (p2 : ByteArray) (p3 : Option Addr) (p4 p5 : Nat) (p6 : Option Addr) (p7 p8 : Nat) (q0 q1 : Int) (q2 : ByteArray) (q3 : Option Addr) (q4 q5 : Nat) (q6 : Option Addr) (q7 q8 : Nat) (x y : Vl) (B : Nat) (w : World) (hn : 2 ≤ n) (ha : a.block < w.heap.size) (h00 : w.cell? a = some (.int .i64 p0)) (h01 : w.cell? ⟨a.block, a.off + 1, none⟩ = some (.int .i64 p1)) (h02 : w.cell? ⟨a.block, a.off + 2, none⟩ = some (.string p2)) (h03 : w.cell? ⟨a.block, a.off + 3, none⟩ = some (.slice p3 p4 p5)) (h04 : w.cell? ⟨a.block, a.off + 4, none⟩ = some (.slice p6 p7 p8)) (h10 : w.cell? ⟨a.block, a.off + 5, none⟩ = some (.int .i64 q0)) (h11 : w.cell? ⟨a.block, a.off + 5 + 1, none⟩ = some (.int .i64 q1)) (h12 : w.cell? ⟨a.block, a.off + 5 + 2, none⟩ = some (.string q2)) (h13 : w.cell? ⟨a.block, a.off + 5 + 3, none⟩ = some (.slice q3 q4 q5)) (h14 : w.cell? ⟨a.block, a.off + 5 + 4, none⟩ = some (.slice q6 q7 q8)) (hx : IsV w B x (.agg #[.int .i64 p0, .int .i64 p1, .string p2, .slice p3 p4 p5, .slice p6 p7 p8])) (hy : IsV w B y (.agg #[.int .i64 q0, .int .i64 q1, .string q2, .slice q3 q4 q5, .slice q6 q7 q8])) (hBs : B ≤ w.heap.size) :
  Calls Tryz.prog 103 #[.agg #[.int .i64 e0, .int .i64 e1, .string e2, .slice e3 e4 e5, .slice e6 e7 e8, .slice (some a) n cl]] w fun e w' => e = .returned (.int .i64 (ord0 x y)) ∧ Below w.heap.size w w' := by
 obtain ⟨gb, hgb⟩ : ∃ gb, w.heap.size = gb := ⟨_, rfl⟩
 obtain ⟨v1, hv1⟩ : ∃ v1, w.alloc (.cells #[.int .i64 e0, .int .i64 e1, .string e2, .slice e3 e4 e5, .slice e6 e7 e8, .slice (some a) n cl] 50) = v1 := ⟨_, rfl⟩
 have n1 : v1.heap[gb]? = some (.cells #[.int .i64 e0, .int .i64 e1, .string e2, .slice e3 e4 e5, .slice e6 e7 e8, .slice (some a) n cl] 50 (0, 0)) := by rw [← hv1, ← hgb]; exact heap_alloc_new w _
 have b1 : Below w.heap.size w v1 := by rw [← hv1]; exact (Below.refl _ _).alloc (Nat.le_refl _) _
 have HB := hide b1
 obtain ⟨t0, t1, t2, t3, t4, t5⟩ := block6 n1
 have hA00 : v1.cell? a = some (.int .i64 p0) := (b1.cell (p := a) ha).trans h00
 have hA01 : v1.cell? ⟨a.block, a.off + 1, none⟩ = some (.int .i64 p1) := (b1.cell (p := ⟨a.block, a.off + 1, none⟩) ha).trans h01
 have hA02 : v1.cell? ⟨a.block, a.off + 2, none⟩ = some (.string p2) := (b1.cell (p := ⟨a.block, a.off + 2, none⟩) ha).trans h02
 have hA03 : v1.cell? ⟨a.block, a.off + 3, none⟩ = some (.slice p3 p4 p5) := (b1.cell (p := ⟨a.block, a.off + 3, none⟩) ha).trans h03
 have hA04 : v1.cell? ⟨a.block, a.off + 4, none⟩ = some (.slice p6 p7 p8) := (b1.cell (p := ⟨a.block, a.off + 4, none⟩) ha).trans h04
 have hA10 : v1.cell? ⟨a.block, a.off + 5, none⟩ = some (.int .i64 q0) := (b1.cell (p := ⟨a.block, a.off + 5, none⟩) ha).trans h10
 have hA11 : v1.cell? ⟨a.block, a.off + 5 + 1, none⟩ = some (.int .i64 q1) := (b1.cell (p := ⟨a.block, a.off + 5 + 1, none⟩) ha).trans h11
 have hA12 : v1.cell? ⟨a.block, a.off + 5 + 2, none⟩ = some (.string q2) := (b1.cell (p := ⟨a.block, a.off + 5 + 2, none⟩) ha).trans h12
 have hA13 : v1.cell? ⟨a.block, a.off + 5 + 3, none⟩ = some (.slice q3 q4 q5) := (b1.cell (p := ⟨a.block, a.off + 5 + 3, none⟩) ha).trans h13
 have hA14 : v1.cell? ⟨a.block, a.off + 5 + 4, none⟩ = some (.slice q6 q7 q8) := (b1.cell (p := ⟨a.block, a.off + 5 + 4, none⟩) ha).trans h14
 have hl0 : (0 : Int) < (n : Int) := by omega
 have hl1 : (1 : Int) < (n : Int) := by omega
 have CC := hide (compare_code x y _ _ B v1.drew (IsV.mono (below_drew_to (b1.mono hBs)) hx) (IsV.mono (below_drew_to (b1.mono hBs)) hy) (Nat.le_trans hBs b1.size))
 clear n1 b1 hx hy h00 h01 h02 h03 h04 h10 h11 h12 h13 h14
 go_enter Tryz.func103, Tryz.ntmps103
 go_upto_region 1 with fail
 have HS0 : Hid (v1.drew.cell? ⟨gb, 5, none⟩ = some (.slice (some a) n cl) ∧ v1.drew.cell? a = some (.int .i64 p0) ∧ v1.drew.cell? ⟨a.block, a.off + 1, none⟩ = some (.int .i64 p1) ∧ v1.drew.cell? ⟨a.block, a.off + 2, none⟩ = some (.string p2) ∧ v1.drew.cell? ⟨a.block, a.off + 3, none⟩ = some (.slice p3 p4 p5) ∧ v1.drew.cell? ⟨a.block, a.off + 4, none⟩ = some (.slice p6 p7 p8) ∧ v1.drew.cell? ⟨a.block, a.off + 5, none⟩ = some (.int .i64 q0) ∧ v1.drew.cell? ⟨a.block, a.off + 5 + 1, none⟩ = some (.int .i64 q1) ∧ v1.drew.cell? ⟨a.block, a.off + 5 + 2, none⟩ = some (.string q2) ∧ v1.drew.cell? ⟨a.block, a.off + 5 + 3, none⟩ = some (.slice q3 q4 q5) ∧ v1.drew.cell? ⟨a.block, a.off + 5 + 4, none⟩ = some (.slice q6 q7 q8)) := hide ⟨t5, hA00, hA01, hA02, hA03, hA04, hA10, hA11, hA12, hA13, hA14⟩
 refine till_begin (S := fun w' => w'.cell? ⟨gb, 5, none⟩ = some (.slice (some a) n cl) ∧ w'.cell? a = some (.int .i64 p0) ∧ w'.cell? ⟨a.block, a.off + 1, none⟩ = some (.int .i64 p1) ∧ w'.cell? ⟨a.block, a.off + 2, none⟩ = some (.string p2) ∧ w'.cell? ⟨a.block, a.off + 3, none⟩ = some (.slice p3 p4 p5) ∧ w'.cell? ⟨a.block, a.off + 4, none⟩ = some (.slice p6 p7 p8) ∧ w'.cell? ⟨a.block, a.off + 5, none⟩ = some (.int .i64 q0) ∧ w'.cell? ⟨a.block, a.off + 5 + 1, none⟩ = some (.int .i64 q1) ∧ w'.cell? ⟨a.block, a.off + 5 + 2, none⟩ = some (.string q2) ∧ w'.cell? ⟨a.block, a.off + 5 + 3, none⟩ = some (.slice q3 q4 q5) ∧ w'.cell? ⟨a.block, a.off + 5 + 4, none⟩ = some (.slice q6 q7 q8)) 9 (by kernel_rfl) ?_
 refine till_take 0 (v := .pointer (some ⟨gb, 5, none⟩)) (some 3) rfl rfl rfl (by kernel_rfl) (by kernel_rfl) (by kernel_rfl) (by kernel_rfl) (fun _ _ _ h => h) (Or.inl ⟨by rfl, fun u hu => by obtain ⟨b0, b1, b2, b3, b4, b5, b6, b7, b8, b9, b10⟩ := hu; go_simp⟩) (uh HS0) ?_
 try simp only [Act.put, setX]
 refine till_take 1 (v := .slice (some a) n cl) (some 4) rfl rfl rfl (by kernel_rfl) (by kernel_rfl) (by kernel_rfl) (by kernel_rfl) (fun _ _ _ h => h) (Or.inl ⟨by rfl, fun u hu => by obtain ⟨b0, b1, b2, b3, b4, b5, b6, b7, b8, b9, b10⟩ := hu; go_simp⟩) (uh HS0) ?_
 try simp only [Act.put, setX]
 refine till_take 2 (v := .pointer (some a)) (some 5) rfl rfl rfl (by kernel_rfl) (by kernel_rfl) (by kernel_rfl) (by kernel_rfl) (fun _ _ _ h => h) (Or.inl ⟨by rfl, fun u hu => by obtain ⟨b0, b1, b2, b3, b4, b5, b6, b7, b8, b9, b10⟩ := hu; go_simp; intro hz; omega⟩) (uh HS0) ?_
 try simp only [Act.put, setX]
 refine till_take 3 (v := .agg #[.int .i64 p0, .int .i64 p1, .string p2, .slice p3 p4 p5, .slice p6 p7 p8]) (some 6) rfl rfl rfl (by kernel_rfl) (by kernel_rfl) (by kernel_rfl) (by kernel_rfl) (fun _ _ _ h => h) (Or.inl ⟨by rfl, fun u hu => by obtain ⟨b0, b1, b2, b3, b4, b5, b6, b7, b8, b9, b10⟩ := hu; go_simp⟩) (uh HS0) ?_
 try simp only [Act.put, setX]
 refine till_take 4 (v := .pointer (some ⟨gb, 5, none⟩)) (some 7) rfl rfl rfl (by kernel_rfl) (by kernel_rfl) (by kernel_rfl) (by kernel_rfl) (fun _ _ _ h => h) (Or.inl ⟨by rfl, fun u hu => by obtain ⟨b0, b1, b2, b3, b4, b5, b6, b7, b8, b9, b10⟩ := hu; go_simp⟩) (uh HS0) ?_
 try simp only [Act.put, setX]
 refine till_take 5 (v := .slice (some a) n cl) (some 8) rfl rfl rfl (by kernel_rfl) (by kernel_rfl) (by kernel_rfl) (by kernel_rfl) (fun _ _ _ h => h) (Or.inl ⟨by rfl, fun u hu => by obtain ⟨b0, b1, b2, b3, b4, b5, b6, b7, b8, b9, b10⟩ := hu; go_simp⟩) (uh HS0) ?_
 try simp only [Act.put, setX]
 refine till_take 6 (v := .pointer (some ⟨a.block, a.off + 5, none⟩)) (some 9) rfl rfl rfl (by kernel_rfl) (by kernel_rfl) (by kernel_rfl) (by kernel_rfl) (fun _ _ _ h => h) (Or.inl ⟨by rfl, fun u hu => by obtain ⟨b0, b1, b2, b3, b4, b5, b6, b7, b8, b9, b10⟩ := hu; go_simp⟩) (uh HS0) ?_
 try simp only [Act.put, setX]
 refine till_take 7 (v := .agg #[.int .i64 q0, .int .i64 q1, .string q2, .slice q3 q4 q5, .slice q6 q7 q8]) (some 10) rfl rfl rfl (by kernel_rfl) (by kernel_rfl) (by kernel_rfl) (by kernel_rfl) (fun _ _ _ h => h) (Or.inl ⟨by rfl, fun u hu => by obtain ⟨b0, b1, b2, b3, b4, b5, b6, b7, b8, b9, b10⟩ := hu; go_simp⟩) (uh HS0) ?_
 try simp only [Act.put, setX]
 refine till_one 8 (by kernel_rfl) rfl (fun K hK => ?_)
 go_simp
 refine (uh CC).mono ?_
 rintro e W2 ⟨rfl, d2⟩
 have X2 : Below v1.heap.size v1 W2 := below_drew_of' d2
 have HS2 : Hid (W2.cell? ⟨gb, 5, none⟩ = some (.slice (some a) n cl) ∧ W2.cell? a = some (.int .i64 p0) ∧ W2.cell? ⟨a.block, a.off + 1, none⟩ = some (.int .i64 p1) ∧ W2.cell? ⟨a.block, a.off + 2, none⟩ = some (.string p2) ∧ W2.cell? ⟨a.block, a.off + 3, none⟩ = some (.slice p3 p4 p5) ∧ W2.cell? ⟨a.block, a.off + 4, none⟩ = some (.slice p6 p7 p8) ∧ W2.cell? ⟨a.block, a.off + 5, none⟩ = some (.int .i64 q0) ∧ W2.cell? ⟨a.block, a.off + 5 + 1, none⟩ = some (.int .i64 q1) ∧ W2.cell? ⟨a.block, a.off + 5 + 2, none⟩ = some (.string q2) ∧ W2.cell? ⟨a.block, a.off + 5 + 3, none⟩ = some (.slice q3 q4 q5) ∧ W2.cell? ⟨a.block, a.off + 5 + 4, none⟩ = some (.slice q6 q7 q8)) := hide ⟨cell_later X2 t5, cell_later X2 hA00, cell_later X2 hA01, cell_later X2 hA02, cell_later X2 hA03, cell_later X2 hA04, cell_later X2 hA10, cell_later X2 hA11, cell_later X2 hA12, cell_later X2 hA13, cell_later X2 hA14⟩
 have HX2 := hide X2
 clear d2 X2
 go_wp2_with fail
 refine hK.out _ _ (Or.inr (uh HS2)) ?_
 clear hK K HS0
 try simp only [Act.put, setX]
 refine till_one 9 (by kernel_rfl) rfl (fun K hK => ?_)
 go_simp
 refine hK.out _ _ (Or.inl (by first | rfl | trivial)) ?_
 clear hK K HS2
 try simp only [Act.put, setX]
 refine till_done (by kernel_rfl) ?_ _
 go_wp2_with fail
 go_ret
 have hb := (uh HB).trans ((uh HX2).mono (uh HB).size)
 exact ⟨rfl, by first | exact hb | (rw [← hgb]; exact hb)⟩
def tst (k : Nat) (c : Int) : Bool := match k with
 | 17 => c == 0
 | 18 => !(c == 0)
 | 19 => decide (c < 0)
 | 20 => decide (c ≤ 0)
 | 21 => decide (0 < c)
 | 22 => decide (0 ≤ c)
 | _ => false
theorem eq_any (e0 e1 : Int) (e2 : ByteArray) (e3 : Option Addr) (e4 e5 : Nat) (e6 : Option Addr) (e7 e8 : Nat) (a : Addr) (n cl : Nat) (p0 p1 : Int) (p2 : ByteArray) (p3 : Option Addr) (p4 p5 : Nat) (p6 : Option Addr) (p7 p8 : Nat) (q0 q1 : Int) (q2 : ByteArray) (q3 : Option Addr) (q4 q5 : Nat) (q6 : Option Addr) (q7 q8 : Nat) (x y : Vl) (B : Nat) (w : World) (hn : 2 ≤ n) (ha : a.block < w.heap.size) (h00 : w.cell? a = some (.int .i64 p0)) (h01 : w.cell? ⟨a.block, a.off + 1, none⟩ = some (.int .i64 p1)) (h02 : w.cell? ⟨a.block, a.off + 2, none⟩ = some (.string p2)) (h03 : w.cell? ⟨a.block, a.off + 3, none⟩ = some (.slice p3 p4 p5)) (h04 : w.cell? ⟨a.block, a.off + 4, none⟩ = some (.slice p6 p7 p8)) (h10 : w.cell? ⟨a.block, a.off + 5, none⟩ = some (.int .i64 q0)) (h11 : w.cell? ⟨a.block, a.off + 5 + 1, none⟩ = some (.int .i64 q1)) (h12 : w.cell? ⟨a.block, a.off + 5 + 2, none⟩ = some (.string q2)) (h13 : w.cell? ⟨a.block, a.off + 5 + 3, none⟩ = some (.slice q3 q4 q5)) (h14 : w.cell? ⟨a.block, a.off + 5 + 4, none⟩ = some (.slice q6 q7 q8)) (hx : IsV w B x (.agg #[.int .i64 p0, .int .i64 p1, .string p2, .slice p3 p4 p5, .slice p6 p7 p8])) (hy : IsV w B y (.agg #[.int .i64 q0, .int .i64 q1, .string q2, .slice q3 q4 q5, .slice q6 q7 q8])) (hBs : B ≤ w.heap.size) :
  Calls Tryz.prog 55 #[.agg #[.int .i64 e0, .int .i64 e1, .string e2, .slice e3 e4 e5, .slice e6 e7 e8, .slice (some a) n cl]] w fun e w' => e = .returned (.tuple #[.agg #[.int .i64 1, .int .i64 (tN (tst 17 (ord0 x y))), .string ⟨#[]⟩, .slice none 0 0, .slice none 0 0], .int .i64 0]) ∧ Below w.heap.size w w' := by
 obtain ⟨gb, hgb⟩ : ∃ gb, w.heap.size = gb := ⟨_, rfl⟩
 obtain ⟨v1, hv1⟩ : ∃ v1, w.alloc (.cells #[.int .i64 e0, .int .i64 e1, .string e2, .slice e3 e4 e5, .slice e6 e7 e8, .slice (some a) n cl] 50) = v1 := ⟨_, rfl⟩
 obtain ⟨gr, hgr⟩ : ∃ gr, v1.heap.size = gr := ⟨_, rfl⟩
 obtain ⟨v2, hv2⟩ : ∃ v2, v1.alloc (.cells #[.int .i64 0, .int .i64 0, .string ⟨#[]⟩, .slice none 0 0, .slice none 0 0] 25) = v2 := ⟨_, rfl⟩
 have n1 : v1.heap[gb]? = some (.cells #[.int .i64 e0, .int .i64 e1, .string e2, .slice e3 e4 e5, .slice e6 e7 e8, .slice (some a) n cl] 50 (0, 0)) := by rw [← hv1, ← hgb]; exact heap_alloc_new w _
 have n2 : v2.heap[gr]? = some (.cells #[.int .i64 0, .int .i64 0, .string ⟨#[]⟩, .slice none 0 0, .slice none 0 0] 25 (0, 0)) := by rw [← hv2, ← hgr]; exact heap_alloc_new v1 _
 have b1 : Below w.heap.size w v1 := by rw [← hv1]; exact (Below.refl _ _).alloc (Nat.le_refl _) _
 have b2 : Below v1.heap.size v1 v2 := by rw [← hv2]; exact (Below.refl _ _).alloc (Nat.le_refl _) _
 have s1 : v1.heap.size = w.heap.size + 1 := by rw [← hv1]; simp
 have HM : Hid (Below w.heap.size w v2 ∧ v2.heap[gb]? = some (.cells #[.int .i64 e0, .int .i64 e1, .string e2, .slice e3 e4 e5, .slice e6 e7 e8, .slice (some a) n cl] 50 (0, 0)) ∧ v2.heap[gr]? = some (.cells #[.int .i64 0, .int .i64 0, .string ⟨#[]⟩, .slice none 0 0, .slice none 0 0] 25 (0, 0)) ∧ w.heap.size ≤ gr) := hide ⟨b1.trans (b2.mono b1.size), (b2.block gb (by omega)).trans n1, n2, by omega⟩
 obtain ⟨t0, t1, t2, t3, t4, t5⟩ := block6 (uh HM).2.1
 have CO := hide (torder_any e0 e1 e2 e3 e4 e5 e6 e7 e8 a n cl p0 p1 p2 p3 p4 p5 p6 p7 p8 q0 q1 q2 q3 q4 q5 q6 q7 q8 x y B v2 hn (Nat.lt_of_lt_of_le ha (uh HM).1.size) (((uh HM).1.cell (p := a) ha).trans h00) (((uh HM).1.cell (p := ⟨a.block, a.off + 1, none⟩) ha).trans h01) (((uh HM).1.cell (p := ⟨a.block, a.off + 2, none⟩) ha).trans h02) (((uh HM).1.cell (p := ⟨a.block, a.off + 3, none⟩) ha).trans h03) (((uh HM).1.cell (p := ⟨a.block, a.off + 4, none⟩) ha).trans h04) (((uh HM).1.cell (p := ⟨a.block, a.off + 5, none⟩) ha).trans h10) (((uh HM).1.cell (p := ⟨a.block, a.off + 5 + 1, none⟩) ha).trans h11) (((uh HM).1.cell (p := ⟨a.block, a.off + 5 + 2, none⟩) ha).trans h12) (((uh HM).1.cell (p := ⟨a.block, a.off + 5 + 3, none⟩) ha).trans h13) (((uh HM).1.cell (p := ⟨a.block, a.off + 5 + 4, none⟩) ha).trans h14) (IsV.mono ((uh HM).1.mono hBs) hx) (IsV.mono ((uh HM).1.mono hBs) hy) (Nat.le_trans hBs (uh HM).1.size))
 obtain ⟨c, hc⟩ : ∃ c, ord0 x y = c := ⟨_, rfl⟩
 rw [hc] at CO ⊢
 clear n1 n2 b1 b2 s1 hx hy hc h00 h01 h02 h03 h04 h10 h11 h12 h13 h14
 go_enter Tryz.func55, Tryz.ntmps55
 go_wp2_with fail
 refine (uh CO).mono ?_
 rintro e W1 ⟨rfl, d1⟩
 have D1 := hide d1
 have CT : Hid (∀ b : Bool, Calls Tryz.prog 102 #[.bool b] W1 fun e w' => e = .returned (.tuple #[.agg #[.int .i64 1, .int .i64 (tN b), .string ⟨#[]⟩, .slice none 0 0, .slice none 0 0], .int .i64 0]) ∧ Below W1.heap.size W1 w') := hide (fun b => truthv_any b W1)
 clear d1 CO t0 t1 t2 t3 t4 t5
 go_wp2_with fail
 refine (uh CT _).mono ?_
 rintro e W2 ⟨rfl, d2⟩
 have X2 : Below v2.heap.size v2 W2 := (uh D1).trans (d2.mono (uh D1).size)
 have ER : Hid (W2.heap[gr]? = some (.cells #[.int .i64 0, .int .i64 0, .string ⟨#[]⟩, .slice none 0 0, .slice none 0 0] 25 (0, 0))) := hide ((X2.block gr (Array.getElem?_eq_some_iff.1 (uh HM).2.2.1).1).trans (uh HM).2.2.1)
 obtain ⟨r0, r1, r2, r3, r4⟩ := block5 (uh ER)
 obtain ⟨f0, f1, f2, f3, f4⟩ := fr5 (uh ER)
 have BE := hide ((uh HM).1.trans (X2.mono (uh HM).1.size))
 clear d2 X2 CT
 go_wp2_with fail
 (try simp only [Exit.inBlock, Exit.then])
 refine bodyPost_ret (ret_ct rfl _ _ gr #[.int .i64 1, .int .i64 (tN (tst 17 c)), .string ⟨#[]⟩, .slice none 0 0, .slice none 0 0] _ _ rfl (set5P (uh ER) _ _ _ _ _) Tryz.underlying25 rfl size_vl) rfl ?_
 exact ⟨rfl, by first | exact set5P_below (uh BE) (uh HM).2.2.2 _ _ _ _ _ | (rw [← hgb]; exact set5P_below (uh BE) (uh HM).2.2.2 _ _ _ _ _)⟩
theorem ne_any (e0 e1 : Int) (e2 : ByteArray) (e3 : Option Addr) (e4 e5 : Nat) (e6 : Option Addr) (e7 e8 : Nat) (a : Addr) (n cl : Nat) (p0 p1 : Int) (p2 : ByteArray) (p3 : Option Addr) (p4 p5 : Nat) (p6 : Option Addr) (p7 p8 : Nat) (q0 q1 : Int) (q2 : ByteArray) (q3 : Option Addr) (q4 q5 : Nat) (q6 : Option Addr) (q7 q8 : Nat) (x y : Vl) (B : Nat) (w : World) (hn : 2 ≤ n) (ha : a.block < w.heap.size) (h00 : w.cell? a = some (.int .i64 p0)) (h01 : w.cell? ⟨a.block, a.off + 1, none⟩ = some (.int .i64 p1)) (h02 : w.cell? ⟨a.block, a.off + 2, none⟩ = some (.string p2)) (h03 : w.cell? ⟨a.block, a.off + 3, none⟩ = some (.slice p3 p4 p5)) (h04 : w.cell? ⟨a.block, a.off + 4, none⟩ = some (.slice p6 p7 p8)) (h10 : w.cell? ⟨a.block, a.off + 5, none⟩ = some (.int .i64 q0)) (h11 : w.cell? ⟨a.block, a.off + 5 + 1, none⟩ = some (.int .i64 q1)) (h12 : w.cell? ⟨a.block, a.off + 5 + 2, none⟩ = some (.string q2)) (h13 : w.cell? ⟨a.block, a.off + 5 + 3, none⟩ = some (.slice q3 q4 q5)) (h14 : w.cell? ⟨a.block, a.off + 5 + 4, none⟩ = some (.slice q6 q7 q8)) (hx : IsV w B x (.agg #[.int .i64 p0, .int .i64 p1, .string p2, .slice p3 p4 p5, .slice p6 p7 p8])) (hy : IsV w B y (.agg #[.int .i64 q0, .int .i64 q1, .string q2, .slice q3 q4 q5, .slice q6 q7 q8])) (hBs : B ≤ w.heap.size) :
  Calls Tryz.prog 56 #[.agg #[.int .i64 e0, .int .i64 e1, .string e2, .slice e3 e4 e5, .slice e6 e7 e8, .slice (some a) n cl]] w fun e w' => e = .returned (.tuple #[.agg #[.int .i64 1, .int .i64 (tN (tst 18 (ord0 x y))), .string ⟨#[]⟩, .slice none 0 0, .slice none 0 0], .int .i64 0]) ∧ Below w.heap.size w w' := by
 obtain ⟨gb, hgb⟩ : ∃ gb, w.heap.size = gb := ⟨_, rfl⟩
 obtain ⟨v1, hv1⟩ : ∃ v1, w.alloc (.cells #[.int .i64 e0, .int .i64 e1, .string e2, .slice e3 e4 e5, .slice e6 e7 e8, .slice (some a) n cl] 50) = v1 := ⟨_, rfl⟩
 obtain ⟨gr, hgr⟩ : ∃ gr, v1.heap.size = gr := ⟨_, rfl⟩
 obtain ⟨v2, hv2⟩ : ∃ v2, v1.alloc (.cells #[.int .i64 0, .int .i64 0, .string ⟨#[]⟩, .slice none 0 0, .slice none 0 0] 25) = v2 := ⟨_, rfl⟩
 have n1 : v1.heap[gb]? = some (.cells #[.int .i64 e0, .int .i64 e1, .string e2, .slice e3 e4 e5, .slice e6 e7 e8, .slice (some a) n cl] 50 (0, 0)) := by rw [← hv1, ← hgb]; exact heap_alloc_new w _
 have n2 : v2.heap[gr]? = some (.cells #[.int .i64 0, .int .i64 0, .string ⟨#[]⟩, .slice none 0 0, .slice none 0 0] 25 (0, 0)) := by rw [← hv2, ← hgr]; exact heap_alloc_new v1 _
 have b1 : Below w.heap.size w v1 := by rw [← hv1]; exact (Below.refl _ _).alloc (Nat.le_refl _) _
 have b2 : Below v1.heap.size v1 v2 := by rw [← hv2]; exact (Below.refl _ _).alloc (Nat.le_refl _) _
 have s1 : v1.heap.size = w.heap.size + 1 := by rw [← hv1]; simp
 have HM : Hid (Below w.heap.size w v2 ∧ v2.heap[gb]? = some (.cells #[.int .i64 e0, .int .i64 e1, .string e2, .slice e3 e4 e5, .slice e6 e7 e8, .slice (some a) n cl] 50 (0, 0)) ∧ v2.heap[gr]? = some (.cells #[.int .i64 0, .int .i64 0, .string ⟨#[]⟩, .slice none 0 0, .slice none 0 0] 25 (0, 0)) ∧ w.heap.size ≤ gr) := hide ⟨b1.trans (b2.mono b1.size), (b2.block gb (by omega)).trans n1, n2, by omega⟩
 obtain ⟨t0, t1, t2, t3, t4, t5⟩ := block6 (uh HM).2.1
 have CO := hide (torder_any e0 e1 e2 e3 e4 e5 e6 e7 e8 a n cl p0 p1 p2 p3 p4 p5 p6 p7 p8 q0 q1 q2 q3 q4 q5 q6 q7 q8 x y B v2 hn (Nat.lt_of_lt_of_le ha (uh HM).1.size) (((uh HM).1.cell (p := a) ha).trans h00) (((uh HM).1.cell (p := ⟨a.block, a.off + 1, none⟩) ha).trans h01) (((uh HM).1.cell (p := ⟨a.block, a.off + 2, none⟩) ha).trans h02) (((uh HM).1.cell (p := ⟨a.block, a.off + 3, none⟩) ha).trans h03) (((uh HM).1.cell (p := ⟨a.block, a.off + 4, none⟩) ha).trans h04) (((uh HM).1.cell (p := ⟨a.block, a.off + 5, none⟩) ha).trans h10) (((uh HM).1.cell (p := ⟨a.block, a.off + 5 + 1, none⟩) ha).trans h11) (((uh HM).1.cell (p := ⟨a.block, a.off + 5 + 2, none⟩) ha).trans h12) (((uh HM).1.cell (p := ⟨a.block, a.off + 5 + 3, none⟩) ha).trans h13) (((uh HM).1.cell (p := ⟨a.block, a.off + 5 + 4, none⟩) ha).trans h14) (IsV.mono ((uh HM).1.mono hBs) hx) (IsV.mono ((uh HM).1.mono hBs) hy) (Nat.le_trans hBs (uh HM).1.size))
 obtain ⟨c, hc⟩ : ∃ c, ord0 x y = c := ⟨_, rfl⟩
 rw [hc] at CO ⊢
 clear n1 n2 b1 b2 s1 hx hy hc h00 h01 h02 h03 h04 h10 h11 h12 h13 h14
 go_enter Tryz.func56, Tryz.ntmps56
 go_wp2_with fail
 refine (uh CO).mono ?_
 rintro e W1 ⟨rfl, d1⟩
 have D1 := hide d1
 have CT : Hid (∀ b : Bool, Calls Tryz.prog 102 #[.bool b] W1 fun e w' => e = .returned (.tuple #[.agg #[.int .i64 1, .int .i64 (tN b), .string ⟨#[]⟩, .slice none 0 0, .slice none 0 0], .int .i64 0]) ∧ Below W1.heap.size W1 w') := hide (fun b => truthv_any b W1)
 clear d1 CO t0 t1 t2 t3 t4 t5
 go_wp2_with fail
 refine (uh CT _).mono ?_
 rintro e W2 ⟨rfl, d2⟩
 have X2 : Below v2.heap.size v2 W2 := (uh D1).trans (d2.mono (uh D1).size)
 have ER : Hid (W2.heap[gr]? = some (.cells #[.int .i64 0, .int .i64 0, .string ⟨#[]⟩, .slice none 0 0, .slice none 0 0] 25 (0, 0))) := hide ((X2.block gr (Array.getElem?_eq_some_iff.1 (uh HM).2.2.1).1).trans (uh HM).2.2.1)
 obtain ⟨r0, r1, r2, r3, r4⟩ := block5 (uh ER)
 obtain ⟨f0, f1, f2, f3, f4⟩ := fr5 (uh ER)
 have BE := hide ((uh HM).1.trans (X2.mono (uh HM).1.size))
 clear d2 X2 CT
 go_wp2_with fail
 (try simp only [Exit.inBlock, Exit.then])
 refine bodyPost_ret (ret_ct rfl _ _ gr #[.int .i64 1, .int .i64 (tN (tst 18 c)), .string ⟨#[]⟩, .slice none 0 0, .slice none 0 0] _ _ rfl (set5P (uh ER) _ _ _ _ _) Tryz.underlying25 rfl size_vl) rfl ?_
 exact ⟨rfl, by first | exact set5P_below (uh BE) (uh HM).2.2.2 _ _ _ _ _ | (rw [← hgb]; exact set5P_below (uh BE) (uh HM).2.2.2 _ _ _ _ _)⟩
theorem lt_any (e0 e1 : Int) (e2 : ByteArray) (e3 : Option Addr) (e4 e5 : Nat) (e6 : Option Addr) (e7 e8 : Nat) (a : Addr) (n cl : Nat) (p0 p1 : Int) (p2 : ByteArray) (p3 : Option Addr) (p4 p5 : Nat) (p6 : Option Addr) (p7 p8 : Nat) (q0 q1 : Int) (q2 : ByteArray) (q3 : Option Addr) (q4 q5 : Nat) (q6 : Option Addr) (q7 q8 : Nat) (x y : Vl) (B : Nat) (w : World) (hn : 2 ≤ n) (ha : a.block < w.heap.size) (h00 : w.cell? a = some (.int .i64 p0)) (h01 : w.cell? ⟨a.block, a.off + 1, none⟩ = some (.int .i64 p1)) (h02 : w.cell? ⟨a.block, a.off + 2, none⟩ = some (.string p2)) (h03 : w.cell? ⟨a.block, a.off + 3, none⟩ = some (.slice p3 p4 p5)) (h04 : w.cell? ⟨a.block, a.off + 4, none⟩ = some (.slice p6 p7 p8)) (h10 : w.cell? ⟨a.block, a.off + 5, none⟩ = some (.int .i64 q0)) (h11 : w.cell? ⟨a.block, a.off + 5 + 1, none⟩ = some (.int .i64 q1)) (h12 : w.cell? ⟨a.block, a.off + 5 + 2, none⟩ = some (.string q2)) (h13 : w.cell? ⟨a.block, a.off + 5 + 3, none⟩ = some (.slice q3 q4 q5)) (h14 : w.cell? ⟨a.block, a.off + 5 + 4, none⟩ = some (.slice q6 q7 q8)) (hx : IsV w B x (.agg #[.int .i64 p0, .int .i64 p1, .string p2, .slice p3 p4 p5, .slice p6 p7 p8])) (hy : IsV w B y (.agg #[.int .i64 q0, .int .i64 q1, .string q2, .slice q3 q4 q5, .slice q6 q7 q8])) (hBs : B ≤ w.heap.size) :
  Calls Tryz.prog 57 #[.agg #[.int .i64 e0, .int .i64 e1, .string e2, .slice e3 e4 e5, .slice e6 e7 e8, .slice (some a) n cl]] w fun e w' => e = .returned (.tuple #[.agg #[.int .i64 1, .int .i64 (tN (tst 19 (ord0 x y))), .string ⟨#[]⟩, .slice none 0 0, .slice none 0 0], .int .i64 0]) ∧ Below w.heap.size w w' := by
 obtain ⟨gb, hgb⟩ : ∃ gb, w.heap.size = gb := ⟨_, rfl⟩
 obtain ⟨v1, hv1⟩ : ∃ v1, w.alloc (.cells #[.int .i64 e0, .int .i64 e1, .string e2, .slice e3 e4 e5, .slice e6 e7 e8, .slice (some a) n cl] 50) = v1 := ⟨_, rfl⟩
 obtain ⟨gr, hgr⟩ : ∃ gr, v1.heap.size = gr := ⟨_, rfl⟩
 obtain ⟨v2, hv2⟩ : ∃ v2, v1.alloc (.cells #[.int .i64 0, .int .i64 0, .string ⟨#[]⟩, .slice none 0 0, .slice none 0 0] 25) = v2 := ⟨_, rfl⟩
 have n1 : v1.heap[gb]? = some (.cells #[.int .i64 e0, .int .i64 e1, .string e2, .slice e3 e4 e5, .slice e6 e7 e8, .slice (some a) n cl] 50 (0, 0)) := by rw [← hv1, ← hgb]; exact heap_alloc_new w _
 have n2 : v2.heap[gr]? = some (.cells #[.int .i64 0, .int .i64 0, .string ⟨#[]⟩, .slice none 0 0, .slice none 0 0] 25 (0, 0)) := by rw [← hv2, ← hgr]; exact heap_alloc_new v1 _
 have b1 : Below w.heap.size w v1 := by rw [← hv1]; exact (Below.refl _ _).alloc (Nat.le_refl _) _
 have b2 : Below v1.heap.size v1 v2 := by rw [← hv2]; exact (Below.refl _ _).alloc (Nat.le_refl _) _
 have s1 : v1.heap.size = w.heap.size + 1 := by rw [← hv1]; simp
 have HM : Hid (Below w.heap.size w v2 ∧ v2.heap[gb]? = some (.cells #[.int .i64 e0, .int .i64 e1, .string e2, .slice e3 e4 e5, .slice e6 e7 e8, .slice (some a) n cl] 50 (0, 0)) ∧ v2.heap[gr]? = some (.cells #[.int .i64 0, .int .i64 0, .string ⟨#[]⟩, .slice none 0 0, .slice none 0 0] 25 (0, 0)) ∧ w.heap.size ≤ gr) := hide ⟨b1.trans (b2.mono b1.size), (b2.block gb (by omega)).trans n1, n2, by omega⟩
 obtain ⟨t0, t1, t2, t3, t4, t5⟩ := block6 (uh HM).2.1
 have CO := hide (torder_any e0 e1 e2 e3 e4 e5 e6 e7 e8 a n cl p0 p1 p2 p3 p4 p5 p6 p7 p8 q0 q1 q2 q3 q4 q5 q6 q7 q8 x y B v2 hn (Nat.lt_of_lt_of_le ha (uh HM).1.size) (((uh HM).1.cell (p := a) ha).trans h00) (((uh HM).1.cell (p := ⟨a.block, a.off + 1, none⟩) ha).trans h01) (((uh HM).1.cell (p := ⟨a.block, a.off + 2, none⟩) ha).trans h02) (((uh HM).1.cell (p := ⟨a.block, a.off + 3, none⟩) ha).trans h03) (((uh HM).1.cell (p := ⟨a.block, a.off + 4, none⟩) ha).trans h04) (((uh HM).1.cell (p := ⟨a.block, a.off + 5, none⟩) ha).trans h10) (((uh HM).1.cell (p := ⟨a.block, a.off + 5 + 1, none⟩) ha).trans h11) (((uh HM).1.cell (p := ⟨a.block, a.off + 5 + 2, none⟩) ha).trans h12) (((uh HM).1.cell (p := ⟨a.block, a.off + 5 + 3, none⟩) ha).trans h13) (((uh HM).1.cell (p := ⟨a.block, a.off + 5 + 4, none⟩) ha).trans h14) (IsV.mono ((uh HM).1.mono hBs) hx) (IsV.mono ((uh HM).1.mono hBs) hy) (Nat.le_trans hBs (uh HM).1.size))
 obtain ⟨c, hc⟩ : ∃ c, ord0 x y = c := ⟨_, rfl⟩
 rw [hc] at CO ⊢
 clear n1 n2 b1 b2 s1 hx hy hc h00 h01 h02 h03 h04 h10 h11 h12 h13 h14
 go_enter Tryz.func57, Tryz.ntmps57
 go_wp2_with fail
 refine (uh CO).mono ?_
 rintro e W1 ⟨rfl, d1⟩
 have D1 := hide d1
 have CT : Hid (∀ b : Bool, Calls Tryz.prog 102 #[.bool b] W1 fun e w' => e = .returned (.tuple #[.agg #[.int .i64 1, .int .i64 (tN b), .string ⟨#[]⟩, .slice none 0 0, .slice none 0 0], .int .i64 0]) ∧ Below W1.heap.size W1 w') := hide (fun b => truthv_any b W1)
 clear d1 CO t0 t1 t2 t3 t4 t5
 go_wp2_with fail
 refine (uh CT _).mono ?_
 rintro e W2 ⟨rfl, d2⟩
 have X2 : Below v2.heap.size v2 W2 := (uh D1).trans (d2.mono (uh D1).size)
 have ER : Hid (W2.heap[gr]? = some (.cells #[.int .i64 0, .int .i64 0, .string ⟨#[]⟩, .slice none 0 0, .slice none 0 0] 25 (0, 0))) := hide ((X2.block gr (Array.getElem?_eq_some_iff.1 (uh HM).2.2.1).1).trans (uh HM).2.2.1)
 obtain ⟨r0, r1, r2, r3, r4⟩ := block5 (uh ER)
 obtain ⟨f0, f1, f2, f3, f4⟩ := fr5 (uh ER)
 have BE := hide ((uh HM).1.trans (X2.mono (uh HM).1.size))
 clear d2 X2 CT
 go_wp2_with fail
 (try simp only [Exit.inBlock, Exit.then])
 refine bodyPost_ret (ret_ct rfl _ _ gr #[.int .i64 1, .int .i64 (tN (tst 19 c)), .string ⟨#[]⟩, .slice none 0 0, .slice none 0 0] _ _ rfl (set5P (uh ER) _ _ _ _ _) Tryz.underlying25 rfl size_vl) rfl ?_
 exact ⟨rfl, by first | exact set5P_below (uh BE) (uh HM).2.2.2 _ _ _ _ _ | (rw [← hgb]; exact set5P_below (uh BE) (uh HM).2.2.2 _ _ _ _ _)⟩
theorem le_any (e0 e1 : Int) (e2 : ByteArray) (e3 : Option Addr) (e4 e5 : Nat) (e6 : Option Addr) (e7 e8 : Nat) (a : Addr) (n cl : Nat) (p0 p1 : Int) (p2 : ByteArray) (p3 : Option Addr) (p4 p5 : Nat) (p6 : Option Addr) (p7 p8 : Nat) (q0 q1 : Int) (q2 : ByteArray) (q3 : Option Addr) (q4 q5 : Nat) (q6 : Option Addr) (q7 q8 : Nat) (x y : Vl) (B : Nat) (w : World) (hn : 2 ≤ n) (ha : a.block < w.heap.size) (h00 : w.cell? a = some (.int .i64 p0)) (h01 : w.cell? ⟨a.block, a.off + 1, none⟩ = some (.int .i64 p1)) (h02 : w.cell? ⟨a.block, a.off + 2, none⟩ = some (.string p2)) (h03 : w.cell? ⟨a.block, a.off + 3, none⟩ = some (.slice p3 p4 p5)) (h04 : w.cell? ⟨a.block, a.off + 4, none⟩ = some (.slice p6 p7 p8)) (h10 : w.cell? ⟨a.block, a.off + 5, none⟩ = some (.int .i64 q0)) (h11 : w.cell? ⟨a.block, a.off + 5 + 1, none⟩ = some (.int .i64 q1)) (h12 : w.cell? ⟨a.block, a.off + 5 + 2, none⟩ = some (.string q2)) (h13 : w.cell? ⟨a.block, a.off + 5 + 3, none⟩ = some (.slice q3 q4 q5)) (h14 : w.cell? ⟨a.block, a.off + 5 + 4, none⟩ = some (.slice q6 q7 q8)) (hx : IsV w B x (.agg #[.int .i64 p0, .int .i64 p1, .string p2, .slice p3 p4 p5, .slice p6 p7 p8])) (hy : IsV w B y (.agg #[.int .i64 q0, .int .i64 q1, .string q2, .slice q3 q4 q5, .slice q6 q7 q8])) (hBs : B ≤ w.heap.size) :
  Calls Tryz.prog 58 #[.agg #[.int .i64 e0, .int .i64 e1, .string e2, .slice e3 e4 e5, .slice e6 e7 e8, .slice (some a) n cl]] w fun e w' => e = .returned (.tuple #[.agg #[.int .i64 1, .int .i64 (tN (tst 20 (ord0 x y))), .string ⟨#[]⟩, .slice none 0 0, .slice none 0 0], .int .i64 0]) ∧ Below w.heap.size w w' := by
 obtain ⟨gb, hgb⟩ : ∃ gb, w.heap.size = gb := ⟨_, rfl⟩
 obtain ⟨v1, hv1⟩ : ∃ v1, w.alloc (.cells #[.int .i64 e0, .int .i64 e1, .string e2, .slice e3 e4 e5, .slice e6 e7 e8, .slice (some a) n cl] 50) = v1 := ⟨_, rfl⟩
 obtain ⟨gr, hgr⟩ : ∃ gr, v1.heap.size = gr := ⟨_, rfl⟩
 obtain ⟨v2, hv2⟩ : ∃ v2, v1.alloc (.cells #[.int .i64 0, .int .i64 0, .string ⟨#[]⟩, .slice none 0 0, .slice none 0 0] 25) = v2 := ⟨_, rfl⟩
 have n1 : v1.heap[gb]? = some (.cells #[.int .i64 e0, .int .i64 e1, .string e2, .slice e3 e4 e5, .slice e6 e7 e8, .slice (some a) n cl] 50 (0, 0)) := by rw [← hv1, ← hgb]; exact heap_alloc_new w _
 have n2 : v2.heap[gr]? = some (.cells #[.int .i64 0, .int .i64 0, .string ⟨#[]⟩, .slice none 0 0, .slice none 0 0] 25 (0, 0)) := by rw [← hv2, ← hgr]; exact heap_alloc_new v1 _
 have b1 : Below w.heap.size w v1 := by rw [← hv1]; exact (Below.refl _ _).alloc (Nat.le_refl _) _
 have b2 : Below v1.heap.size v1 v2 := by rw [← hv2]; exact (Below.refl _ _).alloc (Nat.le_refl _) _
 have s1 : v1.heap.size = w.heap.size + 1 := by rw [← hv1]; simp
 have HM : Hid (Below w.heap.size w v2 ∧ v2.heap[gb]? = some (.cells #[.int .i64 e0, .int .i64 e1, .string e2, .slice e3 e4 e5, .slice e6 e7 e8, .slice (some a) n cl] 50 (0, 0)) ∧ v2.heap[gr]? = some (.cells #[.int .i64 0, .int .i64 0, .string ⟨#[]⟩, .slice none 0 0, .slice none 0 0] 25 (0, 0)) ∧ w.heap.size ≤ gr) := hide ⟨b1.trans (b2.mono b1.size), (b2.block gb (by omega)).trans n1, n2, by omega⟩
 obtain ⟨t0, t1, t2, t3, t4, t5⟩ := block6 (uh HM).2.1
 have CO := hide (torder_any e0 e1 e2 e3 e4 e5 e6 e7 e8 a n cl p0 p1 p2 p3 p4 p5 p6 p7 p8 q0 q1 q2 q3 q4 q5 q6 q7 q8 x y B v2 hn (Nat.lt_of_lt_of_le ha (uh HM).1.size) (((uh HM).1.cell (p := a) ha).trans h00) (((uh HM).1.cell (p := ⟨a.block, a.off + 1, none⟩) ha).trans h01) (((uh HM).1.cell (p := ⟨a.block, a.off + 2, none⟩) ha).trans h02) (((uh HM).1.cell (p := ⟨a.block, a.off + 3, none⟩) ha).trans h03) (((uh HM).1.cell (p := ⟨a.block, a.off + 4, none⟩) ha).trans h04) (((uh HM).1.cell (p := ⟨a.block, a.off + 5, none⟩) ha).trans h10) (((uh HM).1.cell (p := ⟨a.block, a.off + 5 + 1, none⟩) ha).trans h11) (((uh HM).1.cell (p := ⟨a.block, a.off + 5 + 2, none⟩) ha).trans h12) (((uh HM).1.cell (p := ⟨a.block, a.off + 5 + 3, none⟩) ha).trans h13) (((uh HM).1.cell (p := ⟨a.block, a.off + 5 + 4, none⟩) ha).trans h14) (IsV.mono ((uh HM).1.mono hBs) hx) (IsV.mono ((uh HM).1.mono hBs) hy) (Nat.le_trans hBs (uh HM).1.size))
 obtain ⟨c, hc⟩ : ∃ c, ord0 x y = c := ⟨_, rfl⟩
 rw [hc] at CO ⊢
 clear n1 n2 b1 b2 s1 hx hy hc h00 h01 h02 h03 h04 h10 h11 h12 h13 h14
 go_enter Tryz.func58, Tryz.ntmps58
 go_wp2_with fail
 refine (uh CO).mono ?_
 rintro e W1 ⟨rfl, d1⟩
 have D1 := hide d1
 have CT : Hid (∀ b : Bool, Calls Tryz.prog 102 #[.bool b] W1 fun e w' => e = .returned (.tuple #[.agg #[.int .i64 1, .int .i64 (tN b), .string ⟨#[]⟩, .slice none 0 0, .slice none 0 0], .int .i64 0]) ∧ Below W1.heap.size W1 w') := hide (fun b => truthv_any b W1)
 clear d1 CO t0 t1 t2 t3 t4 t5
 go_wp2_with fail
 refine (uh CT _).mono ?_
 rintro e W2 ⟨rfl, d2⟩
 have X2 : Below v2.heap.size v2 W2 := (uh D1).trans (d2.mono (uh D1).size)
 have ER : Hid (W2.heap[gr]? = some (.cells #[.int .i64 0, .int .i64 0, .string ⟨#[]⟩, .slice none 0 0, .slice none 0 0] 25 (0, 0))) := hide ((X2.block gr (Array.getElem?_eq_some_iff.1 (uh HM).2.2.1).1).trans (uh HM).2.2.1)
 obtain ⟨r0, r1, r2, r3, r4⟩ := block5 (uh ER)
 obtain ⟨f0, f1, f2, f3, f4⟩ := fr5 (uh ER)
 have BE := hide ((uh HM).1.trans (X2.mono (uh HM).1.size))
 clear d2 X2 CT
 go_wp2_with fail
 (try simp only [Exit.inBlock, Exit.then])
 refine bodyPost_ret (ret_ct rfl _ _ gr #[.int .i64 1, .int .i64 (tN (tst 20 c)), .string ⟨#[]⟩, .slice none 0 0, .slice none 0 0] _ _ rfl (set5P (uh ER) _ _ _ _ _) Tryz.underlying25 rfl size_vl) rfl ?_
 exact ⟨rfl, by first | exact set5P_below (uh BE) (uh HM).2.2.2 _ _ _ _ _ | (rw [← hgb]; exact set5P_below (uh BE) (uh HM).2.2.2 _ _ _ _ _)⟩
theorem gt_any (e0 e1 : Int) (e2 : ByteArray) (e3 : Option Addr) (e4 e5 : Nat) (e6 : Option Addr) (e7 e8 : Nat) (a : Addr) (n cl : Nat) (p0 p1 : Int) (p2 : ByteArray) (p3 : Option Addr) (p4 p5 : Nat) (p6 : Option Addr) (p7 p8 : Nat) (q0 q1 : Int) (q2 : ByteArray) (q3 : Option Addr) (q4 q5 : Nat) (q6 : Option Addr) (q7 q8 : Nat) (x y : Vl) (B : Nat) (w : World) (hn : 2 ≤ n) (ha : a.block < w.heap.size) (h00 : w.cell? a = some (.int .i64 p0)) (h01 : w.cell? ⟨a.block, a.off + 1, none⟩ = some (.int .i64 p1)) (h02 : w.cell? ⟨a.block, a.off + 2, none⟩ = some (.string p2)) (h03 : w.cell? ⟨a.block, a.off + 3, none⟩ = some (.slice p3 p4 p5)) (h04 : w.cell? ⟨a.block, a.off + 4, none⟩ = some (.slice p6 p7 p8)) (h10 : w.cell? ⟨a.block, a.off + 5, none⟩ = some (.int .i64 q0)) (h11 : w.cell? ⟨a.block, a.off + 5 + 1, none⟩ = some (.int .i64 q1)) (h12 : w.cell? ⟨a.block, a.off + 5 + 2, none⟩ = some (.string q2)) (h13 : w.cell? ⟨a.block, a.off + 5 + 3, none⟩ = some (.slice q3 q4 q5)) (h14 : w.cell? ⟨a.block, a.off + 5 + 4, none⟩ = some (.slice q6 q7 q8)) (hx : IsV w B x (.agg #[.int .i64 p0, .int .i64 p1, .string p2, .slice p3 p4 p5, .slice p6 p7 p8])) (hy : IsV w B y (.agg #[.int .i64 q0, .int .i64 q1, .string q2, .slice q3 q4 q5, .slice q6 q7 q8])) (hBs : B ≤ w.heap.size) :
  Calls Tryz.prog 59 #[.agg #[.int .i64 e0, .int .i64 e1, .string e2, .slice e3 e4 e5, .slice e6 e7 e8, .slice (some a) n cl]] w fun e w' => e = .returned (.tuple #[.agg #[.int .i64 1, .int .i64 (tN (tst 21 (ord0 x y))), .string ⟨#[]⟩, .slice none 0 0, .slice none 0 0], .int .i64 0]) ∧ Below w.heap.size w w' := by
 obtain ⟨gb, hgb⟩ : ∃ gb, w.heap.size = gb := ⟨_, rfl⟩
 obtain ⟨v1, hv1⟩ : ∃ v1, w.alloc (.cells #[.int .i64 e0, .int .i64 e1, .string e2, .slice e3 e4 e5, .slice e6 e7 e8, .slice (some a) n cl] 50) = v1 := ⟨_, rfl⟩
 obtain ⟨gr, hgr⟩ : ∃ gr, v1.heap.size = gr := ⟨_, rfl⟩
 obtain ⟨v2, hv2⟩ : ∃ v2, v1.alloc (.cells #[.int .i64 0, .int .i64 0, .string ⟨#[]⟩, .slice none 0 0, .slice none 0 0] 25) = v2 := ⟨_, rfl⟩
 have n1 : v1.heap[gb]? = some (.cells #[.int .i64 e0, .int .i64 e1, .string e2, .slice e3 e4 e5, .slice e6 e7 e8, .slice (some a) n cl] 50 (0, 0)) := by rw [← hv1, ← hgb]; exact heap_alloc_new w _
 have n2 : v2.heap[gr]? = some (.cells #[.int .i64 0, .int .i64 0, .string ⟨#[]⟩, .slice none 0 0, .slice none 0 0] 25 (0, 0)) := by rw [← hv2, ← hgr]; exact heap_alloc_new v1 _
 have b1 : Below w.heap.size w v1 := by rw [← hv1]; exact (Below.refl _ _).alloc (Nat.le_refl _) _
 have b2 : Below v1.heap.size v1 v2 := by rw [← hv2]; exact (Below.refl _ _).alloc (Nat.le_refl _) _
 have s1 : v1.heap.size = w.heap.size + 1 := by rw [← hv1]; simp
 have HM : Hid (Below w.heap.size w v2 ∧ v2.heap[gb]? = some (.cells #[.int .i64 e0, .int .i64 e1, .string e2, .slice e3 e4 e5, .slice e6 e7 e8, .slice (some a) n cl] 50 (0, 0)) ∧ v2.heap[gr]? = some (.cells #[.int .i64 0, .int .i64 0, .string ⟨#[]⟩, .slice none 0 0, .slice none 0 0] 25 (0, 0)) ∧ w.heap.size ≤ gr) := hide ⟨b1.trans (b2.mono b1.size), (b2.block gb (by omega)).trans n1, n2, by omega⟩
 obtain ⟨t0, t1, t2, t3, t4, t5⟩ := block6 (uh HM).2.1
 have CO := hide (torder_any e0 e1 e2 e3 e4 e5 e6 e7 e8 a n cl p0 p1 p2 p3 p4 p5 p6 p7 p8 q0 q1 q2 q3 q4 q5 q6 q7 q8 x y B v2 hn (Nat.lt_of_lt_of_le ha (uh HM).1.size) (((uh HM).1.cell (p := a) ha).trans h00) (((uh HM).1.cell (p := ⟨a.block, a.off + 1, none⟩) ha).trans h01) (((uh HM).1.cell (p := ⟨a.block, a.off + 2, none⟩) ha).trans h02) (((uh HM).1.cell (p := ⟨a.block, a.off + 3, none⟩) ha).trans h03) (((uh HM).1.cell (p := ⟨a.block, a.off + 4, none⟩) ha).trans h04) (((uh HM).1.cell (p := ⟨a.block, a.off + 5, none⟩) ha).trans h10) (((uh HM).1.cell (p := ⟨a.block, a.off + 5 + 1, none⟩) ha).trans h11) (((uh HM).1.cell (p := ⟨a.block, a.off + 5 + 2, none⟩) ha).trans h12) (((uh HM).1.cell (p := ⟨a.block, a.off + 5 + 3, none⟩) ha).trans h13) (((uh HM).1.cell (p := ⟨a.block, a.off + 5 + 4, none⟩) ha).trans h14) (IsV.mono ((uh HM).1.mono hBs) hx) (IsV.mono ((uh HM).1.mono hBs) hy) (Nat.le_trans hBs (uh HM).1.size))
 obtain ⟨c, hc⟩ : ∃ c, ord0 x y = c := ⟨_, rfl⟩
 rw [hc] at CO ⊢
 clear n1 n2 b1 b2 s1 hx hy hc h00 h01 h02 h03 h04 h10 h11 h12 h13 h14
 go_enter Tryz.func59, Tryz.ntmps59
 go_wp2_with fail
 refine (uh CO).mono ?_
 rintro e W1 ⟨rfl, d1⟩
 have D1 := hide d1
 have CT : Hid (∀ b : Bool, Calls Tryz.prog 102 #[.bool b] W1 fun e w' => e = .returned (.tuple #[.agg #[.int .i64 1, .int .i64 (tN b), .string ⟨#[]⟩, .slice none 0 0, .slice none 0 0], .int .i64 0]) ∧ Below W1.heap.size W1 w') := hide (fun b => truthv_any b W1)
 clear d1 CO t0 t1 t2 t3 t4 t5
 go_wp2_with fail
 refine (uh CT _).mono ?_
 rintro e W2 ⟨rfl, d2⟩
 have X2 : Below v2.heap.size v2 W2 := (uh D1).trans (d2.mono (uh D1).size)
 have ER : Hid (W2.heap[gr]? = some (.cells #[.int .i64 0, .int .i64 0, .string ⟨#[]⟩, .slice none 0 0, .slice none 0 0] 25 (0, 0))) := hide ((X2.block gr (Array.getElem?_eq_some_iff.1 (uh HM).2.2.1).1).trans (uh HM).2.2.1)
 obtain ⟨r0, r1, r2, r3, r4⟩ := block5 (uh ER)
 obtain ⟨f0, f1, f2, f3, f4⟩ := fr5 (uh ER)
 have BE := hide ((uh HM).1.trans (X2.mono (uh HM).1.size))
 clear d2 X2 CT
 go_wp2_with fail
 (try simp only [Exit.inBlock, Exit.then])
 refine bodyPost_ret (ret_ct rfl _ _ gr #[.int .i64 1, .int .i64 (tN (tst 21 c)), .string ⟨#[]⟩, .slice none 0 0, .slice none 0 0] _ _ rfl (set5P (uh ER) _ _ _ _ _) Tryz.underlying25 rfl size_vl) rfl ?_
 exact ⟨rfl, by first | exact set5P_below (uh BE) (uh HM).2.2.2 _ _ _ _ _ | (rw [← hgb]; exact set5P_below (uh BE) (uh HM).2.2.2 _ _ _ _ _)⟩
theorem ge_any (e0 e1 : Int) (e2 : ByteArray) (e3 : Option Addr) (e4 e5 : Nat) (e6 : Option Addr) (e7 e8 : Nat) (a : Addr) (n cl : Nat) (p0 p1 : Int) (p2 : ByteArray) (p3 : Option Addr) (p4 p5 : Nat) (p6 : Option Addr) (p7 p8 : Nat) (q0 q1 : Int) (q2 : ByteArray) (q3 : Option Addr) (q4 q5 : Nat) (q6 : Option Addr) (q7 q8 : Nat) (x y : Vl) (B : Nat) (w : World) (hn : 2 ≤ n) (ha : a.block < w.heap.size) (h00 : w.cell? a = some (.int .i64 p0)) (h01 : w.cell? ⟨a.block, a.off + 1, none⟩ = some (.int .i64 p1)) (h02 : w.cell? ⟨a.block, a.off + 2, none⟩ = some (.string p2)) (h03 : w.cell? ⟨a.block, a.off + 3, none⟩ = some (.slice p3 p4 p5)) (h04 : w.cell? ⟨a.block, a.off + 4, none⟩ = some (.slice p6 p7 p8)) (h10 : w.cell? ⟨a.block, a.off + 5, none⟩ = some (.int .i64 q0)) (h11 : w.cell? ⟨a.block, a.off + 5 + 1, none⟩ = some (.int .i64 q1)) (h12 : w.cell? ⟨a.block, a.off + 5 + 2, none⟩ = some (.string q2)) (h13 : w.cell? ⟨a.block, a.off + 5 + 3, none⟩ = some (.slice q3 q4 q5)) (h14 : w.cell? ⟨a.block, a.off + 5 + 4, none⟩ = some (.slice q6 q7 q8)) (hx : IsV w B x (.agg #[.int .i64 p0, .int .i64 p1, .string p2, .slice p3 p4 p5, .slice p6 p7 p8])) (hy : IsV w B y (.agg #[.int .i64 q0, .int .i64 q1, .string q2, .slice q3 q4 q5, .slice q6 q7 q8])) (hBs : B ≤ w.heap.size) :
  Calls Tryz.prog 60 #[.agg #[.int .i64 e0, .int .i64 e1, .string e2, .slice e3 e4 e5, .slice e6 e7 e8, .slice (some a) n cl]] w fun e w' => e = .returned (.tuple #[.agg #[.int .i64 1, .int .i64 (tN (tst 22 (ord0 x y))), .string ⟨#[]⟩, .slice none 0 0, .slice none 0 0], .int .i64 0]) ∧ Below w.heap.size w w' := by
 obtain ⟨gb, hgb⟩ : ∃ gb, w.heap.size = gb := ⟨_, rfl⟩
 obtain ⟨v1, hv1⟩ : ∃ v1, w.alloc (.cells #[.int .i64 e0, .int .i64 e1, .string e2, .slice e3 e4 e5, .slice e6 e7 e8, .slice (some a) n cl] 50) = v1 := ⟨_, rfl⟩
 obtain ⟨gr, hgr⟩ : ∃ gr, v1.heap.size = gr := ⟨_, rfl⟩
 obtain ⟨v2, hv2⟩ : ∃ v2, v1.alloc (.cells #[.int .i64 0, .int .i64 0, .string ⟨#[]⟩, .slice none 0 0, .slice none 0 0] 25) = v2 := ⟨_, rfl⟩
 have n1 : v1.heap[gb]? = some (.cells #[.int .i64 e0, .int .i64 e1, .string e2, .slice e3 e4 e5, .slice e6 e7 e8, .slice (some a) n cl] 50 (0, 0)) := by rw [← hv1, ← hgb]; exact heap_alloc_new w _
 have n2 : v2.heap[gr]? = some (.cells #[.int .i64 0, .int .i64 0, .string ⟨#[]⟩, .slice none 0 0, .slice none 0 0] 25 (0, 0)) := by rw [← hv2, ← hgr]; exact heap_alloc_new v1 _
 have b1 : Below w.heap.size w v1 := by rw [← hv1]; exact (Below.refl _ _).alloc (Nat.le_refl _) _
 have b2 : Below v1.heap.size v1 v2 := by rw [← hv2]; exact (Below.refl _ _).alloc (Nat.le_refl _) _
 have s1 : v1.heap.size = w.heap.size + 1 := by rw [← hv1]; simp
 have HM : Hid (Below w.heap.size w v2 ∧ v2.heap[gb]? = some (.cells #[.int .i64 e0, .int .i64 e1, .string e2, .slice e3 e4 e5, .slice e6 e7 e8, .slice (some a) n cl] 50 (0, 0)) ∧ v2.heap[gr]? = some (.cells #[.int .i64 0, .int .i64 0, .string ⟨#[]⟩, .slice none 0 0, .slice none 0 0] 25 (0, 0)) ∧ w.heap.size ≤ gr) := hide ⟨b1.trans (b2.mono b1.size), (b2.block gb (by omega)).trans n1, n2, by omega⟩
 obtain ⟨t0, t1, t2, t3, t4, t5⟩ := block6 (uh HM).2.1
 have CO := hide (torder_any e0 e1 e2 e3 e4 e5 e6 e7 e8 a n cl p0 p1 p2 p3 p4 p5 p6 p7 p8 q0 q1 q2 q3 q4 q5 q6 q7 q8 x y B v2 hn (Nat.lt_of_lt_of_le ha (uh HM).1.size) (((uh HM).1.cell (p := a) ha).trans h00) (((uh HM).1.cell (p := ⟨a.block, a.off + 1, none⟩) ha).trans h01) (((uh HM).1.cell (p := ⟨a.block, a.off + 2, none⟩) ha).trans h02) (((uh HM).1.cell (p := ⟨a.block, a.off + 3, none⟩) ha).trans h03) (((uh HM).1.cell (p := ⟨a.block, a.off + 4, none⟩) ha).trans h04) (((uh HM).1.cell (p := ⟨a.block, a.off + 5, none⟩) ha).trans h10) (((uh HM).1.cell (p := ⟨a.block, a.off + 5 + 1, none⟩) ha).trans h11) (((uh HM).1.cell (p := ⟨a.block, a.off + 5 + 2, none⟩) ha).trans h12) (((uh HM).1.cell (p := ⟨a.block, a.off + 5 + 3, none⟩) ha).trans h13) (((uh HM).1.cell (p := ⟨a.block, a.off + 5 + 4, none⟩) ha).trans h14) (IsV.mono ((uh HM).1.mono hBs) hx) (IsV.mono ((uh HM).1.mono hBs) hy) (Nat.le_trans hBs (uh HM).1.size))
 obtain ⟨c, hc⟩ : ∃ c, ord0 x y = c := ⟨_, rfl⟩
 rw [hc] at CO ⊢
 clear n1 n2 b1 b2 s1 hx hy hc h00 h01 h02 h03 h04 h10 h11 h12 h13 h14
 go_enter Tryz.func60, Tryz.ntmps60
 go_wp2_with fail
 refine (uh CO).mono ?_
 rintro e W1 ⟨rfl, d1⟩
 have D1 := hide d1
 have CT : Hid (∀ b : Bool, Calls Tryz.prog 102 #[.bool b] W1 fun e w' => e = .returned (.tuple #[.agg #[.int .i64 1, .int .i64 (tN b), .string ⟨#[]⟩, .slice none 0 0, .slice none 0 0], .int .i64 0]) ∧ Below W1.heap.size W1 w') := hide (fun b => truthv_any b W1)
 clear d1 CO t0 t1 t2 t3 t4 t5
 go_wp2_with fail
 refine (uh CT _).mono ?_
 rintro e W2 ⟨rfl, d2⟩
 have X2 : Below v2.heap.size v2 W2 := (uh D1).trans (d2.mono (uh D1).size)
 have ER : Hid (W2.heap[gr]? = some (.cells #[.int .i64 0, .int .i64 0, .string ⟨#[]⟩, .slice none 0 0, .slice none 0 0] 25 (0, 0))) := hide ((X2.block gr (Array.getElem?_eq_some_iff.1 (uh HM).2.2.1).1).trans (uh HM).2.2.1)
 obtain ⟨r0, r1, r2, r3, r4⟩ := block5 (uh ER)
 obtain ⟨f0, f1, f2, f3, f4⟩ := fr5 (uh ER)
 have BE := hide ((uh HM).1.trans (X2.mono (uh HM).1.size))
 clear d2 X2 CT
 go_wp2_with fail
 (try simp only [Exit.inBlock, Exit.then])
 refine bodyPost_ret (ret_ct rfl _ _ gr #[.int .i64 1, .int .i64 (tN (tst 22 c)), .string ⟨#[]⟩, .slice none 0 0, .slice none 0 0] _ _ rfl (set5P (uh ER) _ _ _ _ _) Tryz.underlying25 rfl size_vl) rfl ?_
 exact ⟨rfl, by first | exact set5P_below (uh BE) (uh HM).2.2.2 _ _ _ _ _ | (rw [← hgb]; exact set5P_below (uh BE) (uh HM).2.2.2 _ _ _ _ _)⟩
end Go.Proofs.YtgkmdjmigehmeaaGreatDoor

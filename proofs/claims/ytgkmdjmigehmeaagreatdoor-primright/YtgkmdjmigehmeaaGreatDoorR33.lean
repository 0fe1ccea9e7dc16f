/-
  neg, and add of whole numbers (prim); no conditions.
-/
import Derived.Test.YtgkmdjmigehmeaaGreatDoorR32
namespace Go.Proofs.YtgkmdjmigehmeaaGreatDoor
set_option linter.unusedVariables false
set_option linter.unusedSimpArgs false
set_option maxRecDepth 100000
set_option maxHeartbeats 16000000
open Go.RowKit
theorem neg_num (e0 e1 : Int) (e2 : ByteArray) (e3 : Option Addr) (e4 e5 : Nat) (e6 : Option Addr) (e7 e8 : Nat) (a : Addr) (n cl : Nat) (p : Int) (w : World) (hn : 1 ≤ n) (ha : a.block < w.heap.size) (h0 : w.cell? ⟨a.block, a.off + 1, none⟩ = some (.int .i64 p)) :
  Calls Tryz.prog 53 #[.agg #[.int .i64 e0, .int .i64 e1, .string e2, .slice e3 e4 e5, .slice e6 e7 e8, .slice (some a) n cl]] w fun e w' => e = .returned (.tuple #[.agg #[.int .i64 2, .int .i64 (wrap64 (-p)), .string ⟨#[]⟩, .slice none 0 0, .slice none 0 0], .int .i64 0]) ∧ Below w.heap.size w w' := by
 obtain ⟨gb, hgb⟩ : ∃ gb, w.heap.size = gb := ⟨_, rfl⟩
 obtain ⟨v1, hv1⟩ : ∃ v1, w.alloc (.cells #[.int .i64 e0, .int .i64 e1, .string e2, .slice e3 e4 e5, .slice e6 e7 e8, .slice (some a) n cl] 50) = v1 := ⟨_, rfl⟩
 obtain ⟨gr, hgr⟩ : ∃ gr, v1.heap.size = gr := ⟨_, rfl⟩
 obtain ⟨v2, hv2⟩ : ∃ v2, v1.alloc (.cells #[.int .i64 0, .int .i64 0, .string ⟨#[]⟩, .slice none 0 0, .slice none 0 0] 25) = v2 := ⟨_, rfl⟩
 have n1 : v1.heap[gb]? = some (.cells #[.int .i64 e0, .int .i64 e1, .string e2, .slice e3 e4 e5, .slice e6 e7 e8, .slice (some a) n cl] 50 (0, 0)) := by rw [← hv1, ← hgb]; exact heap_alloc_new w _
 have n2 : v2.heap[gr]? = some (.cells #[.int .i64 0, .int .i64 0, .string ⟨#[]⟩, .slice none 0 0, .slice none 0 0] 25 (0, 0)) := by rw [← hv2, ← hgr]; exact heap_alloc_new v1 _
 have b1 : Below w.heap.size w v1 := by rw [← hv1]; exact (Below.refl _ _).alloc (Nat.le_refl _) _
 have b2 : Below v1.heap.size v1 v2 := by rw [← hv2]; exact (Below.refl _ _).alloc (Nat.le_refl _) _
 have s1 : v1.heap.size = w.heap.size + 1 := by rw [← hv1]; simp
 have HM : Hid (Below w.heap.size w v2 ∧ v2.heap[gb]? = some (.cells #[.int .i64 e0, .int .i64 e1, .string e2, .slice e3 e4 e5, .slice e6 e7 e8, .slice (some a) n cl] 50 (0, 0)) ∧ v2.heap[gr]? = some (.cells #[.int .i64 0, .int .i64 0, .string ⟨#[]⟩, .slice none 0 0, .slice none 0 0] 25 (0, 0)) ∧ w.heap.size ≤ gr ∧ gb ≠ gr ∧ a.block < w.heap.size) := hide ⟨b1.trans (b2.mono b1.size), (b2.block gb (by omega)).trans n1, n2, by omega, by omega, ha⟩
 obtain ⟨t0, t1, t2, t3, t4, t5⟩ := block6 (uh HM).2.1
 have hA0 : v2.cell? ⟨a.block, a.off + 1, none⟩ = some (.int .i64 p) := ((uh HM).1.cell (p := ⟨a.block, a.off + 1, none⟩) ha).trans h0
 have hl0 : (0 : Int) < (n : Int) := by omega
 have CN := hide (number_any (wrap64 (-p)) v2)
 clear n1 n2 b1 b2 s1 h0
 go_enter Tryz.func53, Tryz.ntmps53
 go_wp2_with fail
 refine (uh CN).mono ?_
 rintro e W2 ⟨rfl, d2⟩
 have X2 := d2
 have ER : Hid (W2.heap[gr]? = some (.cells #[.int .i64 0, .int .i64 0, .string ⟨#[]⟩, .slice none 0 0, .slice none 0 0] 25 (0, 0))) := hide ((X2.block gr (Array.getElem?_eq_some_iff.1 (uh HM).2.2.1).1).trans (uh HM).2.2.1)
 obtain ⟨r0, r1, r2, r3, r4⟩ := block5 (uh ER)
 obtain ⟨f0, f1, f2, f3, f4⟩ := fr5 (uh ER)
 have BE := hide ((uh HM).1.trans (d2.mono (uh HM).1.size))
 clear d2 X2 CN t0 t1 t2 t3 t4 t5 hA0
 go_wp2_with fail
 (try simp only [Exit.inBlock, Exit.then])
 refine bodyPost_ret (ret_ct rfl _ _ gr #[.int .i64 2, .int .i64 (wrap64 (-p)), .string ⟨#[]⟩, .slice none 0 0, .slice none 0 0] _ _ rfl (set5P (uh ER) _ _ _ _ _) Tryz.underlying25 rfl size_vl) rfl ?_
 exact ⟨rfl, by first | exact set5P_below (uh BE) (uh HM).2.2.2.1 _ _ _ _ _ | (rw [← hgb]; exact set5P_below (uh BE) (uh HM).2.2.2.1 _ _ _ _ _)⟩
theorem add_num (e0 e1 : Int) (e2 : ByteArray) (e3 : Option Addr) (e4 e5 : Nat) (e6 : Option Addr) (e7 e8 : Nat) (a : Addr) (n cl : Nat) (p1 : Int) (p2 : ByteArray) (p3 : Option Addr) (p4 p5 : Nat) (p6 : Option Addr) (p7 p8 : Nat) (q1 : Int) (q2 : ByteArray) (q3 : Option Addr) (q4 q5 : Nat) (q6 : Option Addr) (q7 q8 : Nat) (w : World) (hn : 2 ≤ n) (ha : a.block < w.heap.size) (h00 : w.cell? a = some (.int .i64 2)) (h01 : w.cell? ⟨a.block, a.off + 1, none⟩ = some (.int .i64 p1)) (h02 : w.cell? ⟨a.block, a.off + 2, none⟩ = some (.string p2)) (h03 : w.cell? ⟨a.block, a.off + 3, none⟩ = some (.slice p3 p4 p5)) (h04 : w.cell? ⟨a.block, a.off + 4, none⟩ = some (.slice p6 p7 p8)) (h10 : w.cell? ⟨a.block, a.off + 5, none⟩ = some (.int .i64 2)) (h11 : w.cell? ⟨a.block, a.off + 5 + 1, none⟩ = some (.int .i64 q1)) (h12 : w.cell? ⟨a.block, a.off + 5 + 2, none⟩ = some (.string q2)) (h13 : w.cell? ⟨a.block, a.off + 5 + 3, none⟩ = some (.slice q3 q4 q5)) (h14 : w.cell? ⟨a.block, a.off + 5 + 4, none⟩ = some (.slice q6 q7 q8)) :
  Calls Tryz.prog 48 #[.agg #[.int .i64 e0, .int .i64 e1, .string e2, .slice e3 e4 e5, .slice e6 e7 e8, .slice (some a) n cl]] w fun e w' => e = .returned (.tuple #[.agg #[.int .i64 2, .int .i64 (wrap64 (p1 + q1)), .string ⟨#[]⟩, .slice none 0 0, .slice none 0 0], .int .i64 0]) ∧ Below w.heap.size w w' := by
 obtain ⟨gb, hgb⟩ : ∃ gb, w.heap.size = gb := ⟨_, rfl⟩
 obtain ⟨v1, hv1⟩ : ∃ v1, w.alloc (.cells #[.int .i64 e0, .int .i64 e1, .string e2, .slice e3 e4 e5, .slice e6 e7 e8, .slice (some a) n cl] 50) = v1 := ⟨_, rfl⟩
 obtain ⟨gr, hgr⟩ : ∃ gr, v1.heap.size = gr := ⟨_, rfl⟩
 obtain ⟨v2, hv2⟩ : ∃ v2, v1.alloc (.cells #[.int .i64 0, .int .i64 0, .string ⟨#[]⟩, .slice none 0 0, .slice none 0 0] 25) = v2 := ⟨_, rfl⟩
 have n1 : v1.heap[gb]? = some (.cells #[.int .i64 e0, .int .i64 e1, .string e2, .slice e3 e4 e5, .slice e6 e7 e8, .slice (some a) n cl] 50 (0, 0)) := by rw [← hv1, ← hgb]; exact heap_alloc_new w _
 have n2 : v2.heap[gr]? = some (.cells #[.int .i64 0, .int .i64 0, .string ⟨#[]⟩, .slice none 0 0, .slice none 0 0] 25 (0, 0)) := by rw [← hv2, ← hgr]; exact heap_alloc_new v1 _
 have b1 : Below w.heap.size w v1 := by rw [← hv1]; exact (Below.refl _ _).alloc (Nat.le_refl _) _
 have b2 : Below v1.heap.size v1 v2 := by rw [← hv2]; exact (Below.refl _ _).alloc (Nat.le_refl _) _
 have s1 : v1.heap.size = w.heap.size + 1 := by rw [← hv1]; simp
 have HM : Hid (Below w.heap.size w v2 ∧ v2.heap[gb]? = some (.cells #[.int .i64 e0, .int .i64 e1, .string e2, .slice e3 e4 e5, .slice e6 e7 e8, .slice (some a) n cl] 50 (0, 0)) ∧ v2.heap[gr]? = some (.cells #[.int .i64 0, .int .i64 0, .string ⟨#[]⟩, .slice none 0 0, .slice none 0 0] 25 (0, 0)) ∧ w.heap.size ≤ gr ∧ gb ≠ gr ∧ a.block < w.heap.size) := hide ⟨b1.trans (b2.mono b1.size), (b2.block gb (by omega)).trans n1, n2, by omega, by omega, ha⟩
 obtain ⟨t0, t1, t2, t3, t4, t5⟩ := block6 (uh HM).2.1
 have hA00 : v2.cell? a = some (.int .i64 2) := ((uh HM).1.cell (p := a) ha).trans h00
 have hA01 : v2.cell? ⟨a.block, a.off + 1, none⟩ = some (.int .i64 p1) := ((uh HM).1.cell (p := ⟨a.block, a.off + 1, none⟩) ha).trans h01
 have hA02 : v2.cell? ⟨a.block, a.off + 2, none⟩ = some (.string p2) := ((uh HM).1.cell (p := ⟨a.block, a.off + 2, none⟩) ha).trans h02
 have hA03 : v2.cell? ⟨a.block, a.off + 3, none⟩ = some (.slice p3 p4 p5) := ((uh HM).1.cell (p := ⟨a.block, a.off + 3, none⟩) ha).trans h03
 have hA04 : v2.cell? ⟨a.block, a.off + 4, none⟩ = some (.slice p6 p7 p8) := ((uh HM).1.cell (p := ⟨a.block, a.off + 4, none⟩) ha).trans h04
 have hA10 : v2.cell? ⟨a.block, a.off + 5, none⟩ = some (.int .i64 2) := ((uh HM).1.cell (p := ⟨a.block, a.off + 5, none⟩) ha).trans h10
 have hA11 : v2.cell? ⟨a.block, a.off + 5 + 1, none⟩ = some (.int .i64 q1) := ((uh HM).1.cell (p := ⟨a.block, a.off + 5 + 1, none⟩) ha).trans h11
 have hA12 : v2.cell? ⟨a.block, a.off + 5 + 2, none⟩ = some (.string q2) := ((uh HM).1.cell (p := ⟨a.block, a.off + 5 + 2, none⟩) ha).trans h12
 have hA13 : v2.cell? ⟨a.block, a.off + 5 + 3, none⟩ = some (.slice q3 q4 q5) := ((uh HM).1.cell (p := ⟨a.block, a.off + 5 + 3, none⟩) ha).trans h13
 have hA14 : v2.cell? ⟨a.block, a.off + 5 + 4, none⟩ = some (.slice q6 q7 q8) := ((uh HM).1.cell (p := ⟨a.block, a.off + 5 + 4, none⟩) ha).trans h14
 have hl0 : (0 : Int) < (n : Int) := by omega
 have hl1 : (1 : Int) < (n : Int) := by omega
 have hlt0 : gb < v2.heap.size := (Array.getElem?_eq_some_iff.1 (uh HM).2.1).1
 have hlt1 : a.block < v2.heap.size := Nat.lt_of_lt_of_le ha (uh HM).1.size
 clear n1 n2 b1 b2 s1 h00 h01 h02 h03 h04 h10 h11 h12 h13 h14
 obtain ⟨W0, hW0⟩ : ∃ W0, v2.drew = W0 := ⟨_, rfl⟩
 have HW0 : Hid (∀ W, Below W0.heap.size W0 W → Below v2.heap.size v2 W) := hide (fun W h => by rw [← hW0] at h; exact below_drew_of' h)
 have hs0 : v2.heap.size = W0.heap.size := by rw [← hW0]; rfl
 go_enter Tryz.func48, Tryz.ntmps48
 go_upto_region 1 with fail
 have HS0 : Hid (v2.drew.cell? ⟨gb, 5, none⟩ = some (.slice (some a) n cl) ∧ v2.drew.cell? a = some (.int .i64 2) ∧ v2.drew.cell? ⟨a.block, a.off + 1, none⟩ = some (.int .i64 p1) ∧ v2.drew.cell? ⟨a.block, a.off + 2, none⟩ = some (.string p2) ∧ v2.drew.cell? ⟨a.block, a.off + 3, none⟩ = some (.slice p3 p4 p5) ∧ v2.drew.cell? ⟨a.block, a.off + 4, none⟩ = some (.slice p6 p7 p8) ∧ v2.drew.cell? ⟨a.block, a.off + 5, none⟩ = some (.int .i64 2) ∧ v2.drew.cell? ⟨a.block, a.off + 5 + 1, none⟩ = some (.int .i64 q1) ∧ v2.drew.cell? ⟨a.block, a.off + 5 + 2, none⟩ = some (.string q2) ∧ v2.drew.cell? ⟨a.block, a.off + 5 + 3, none⟩ = some (.slice q3 q4 q5) ∧ v2.drew.cell? ⟨a.block, a.off + 5 + 4, none⟩ = some (.slice q6 q7 q8)) := hide ⟨t5, hA00, hA01, hA02, hA03, hA04, hA10, hA11, hA12, hA13, hA14⟩
 refine till_begin (S := fun w' => w'.cell? ⟨gb, 5, none⟩ = some (.slice (some a) n cl) ∧ w'.cell? a = some (.int .i64 2) ∧ w'.cell? ⟨a.block, a.off + 1, none⟩ = some (.int .i64 p1) ∧ w'.cell? ⟨a.block, a.off + 2, none⟩ = some (.string p2) ∧ w'.cell? ⟨a.block, a.off + 3, none⟩ = some (.slice p3 p4 p5) ∧ w'.cell? ⟨a.block, a.off + 4, none⟩ = some (.slice p6 p7 p8) ∧ w'.cell? ⟨a.block, a.off + 5, none⟩ = some (.int .i64 2) ∧ w'.cell? ⟨a.block, a.off + 5 + 1, none⟩ = some (.int .i64 q1) ∧ w'.cell? ⟨a.block, a.off + 5 + 2, none⟩ = some (.string q2) ∧ w'.cell? ⟨a.block, a.off + 5 + 3, none⟩ = some (.slice q3 q4 q5) ∧ w'.cell? ⟨a.block, a.off + 5 + 4, none⟩ = some (.slice q6 q7 q8)) 11 (by kernel_rfl) ?_
 refine till_take 0 (v := .pointer (some ⟨gb, 5, none⟩)) (some 6) rfl rfl rfl (by kernel_rfl) (by kernel_rfl) (by kernel_rfl) (by kernel_rfl) (fun _ _ _ h => h) (Or.inl ⟨by rfl, fun u hu => by obtain ⟨b0, b1, b2, b3, b4, b5, b6, b7, b8, b9, b10⟩ := hu; go_simp⟩) (uh HS0) ?_
 try simp only [Act.put, setX]
 refine till_take 1 (v := .slice (some a) n cl) (some 7) rfl rfl rfl (by kernel_rfl) (by kernel_rfl) (by kernel_rfl) (by kernel_rfl) (fun _ _ _ h => h) (Or.inl ⟨by rfl, fun u hu => by obtain ⟨b0, b1, b2, b3, b4, b5, b6, b7, b8, b9, b10⟩ := hu; go_simp⟩) (uh HS0) ?_
 try simp only [Act.put, setX]
 refine till_take 2 (v := .pointer (some a)) (some 8) rfl rfl rfl (by kernel_rfl) (by kernel_rfl) (by kernel_rfl) (by kernel_rfl) (fun _ _ _ h => h) (Or.inl ⟨by rfl, fun u hu => by obtain ⟨b0, b1, b2, b3, b4, b5, b6, b7, b8, b9, b10⟩ := hu; go_simp; intro hz; omega⟩) (uh HS0) ?_
 try simp only [Act.put, setX]
 refine till_take 3 (v := .agg #[.int .i64 2, .int .i64 p1, .string p2, .slice p3 p4 p5, .slice p6 p7 p8]) (some 9) rfl rfl rfl (by kernel_rfl) (by kernel_rfl) (by kernel_rfl) (by kernel_rfl) (fun _ _ _ h => h) (Or.inl ⟨by rfl, fun u hu => by obtain ⟨b0, b1, b2, b3, b4, b5, b6, b7, b8, b9, b10⟩ := hu; go_simp⟩) (uh HS0) ?_
 try simp only [Act.put, setX]
 refine till_take 4 (v := .pointer (some ⟨gb, 5, none⟩)) (some 10) rfl rfl rfl (by kernel_rfl) (by kernel_rfl) (by kernel_rfl) (by kernel_rfl) (fun _ _ _ h => h) (Or.inl ⟨by rfl, fun u hu => by obtain ⟨b0, b1, b2, b3, b4, b5, b6, b7, b8, b9, b10⟩ := hu; go_simp⟩) (uh HS0) ?_
 try simp only [Act.put, setX]
 refine till_take 5 (v := .slice (some a) n cl) (some 11) rfl rfl rfl (by kernel_rfl) (by kernel_rfl) (by kernel_rfl) (by kernel_rfl) (fun _ _ _ h => h) (Or.inl ⟨by rfl, fun u hu => by obtain ⟨b0, b1, b2, b3, b4, b5, b6, b7, b8, b9, b10⟩ := hu; go_simp⟩) (uh HS0) ?_
 try simp only [Act.put, setX]
 refine till_take 6 (v := .pointer (some ⟨a.block, a.off + 5, none⟩)) (some 12) rfl rfl rfl (by kernel_rfl) (by kernel_rfl) (by kernel_rfl) (by kernel_rfl) (fun _ _ _ h => h) (Or.inl ⟨by rfl, fun u hu => by obtain ⟨b0, b1, b2, b3, b4, b5, b6, b7, b8, b9, b10⟩ := hu; go_simp⟩) (uh HS0) ?_
 try simp only [Act.put, setX]
 refine till_take 7 (v := .agg #[.int .i64 2, .int .i64 q1, .string q2, .slice q3 q4 q5, .slice q6 q7 q8]) (some 13) rfl rfl rfl (by kernel_rfl) (by kernel_rfl) (by kernel_rfl) (by kernel_rfl) (fun _ _ _ h => h) (Or.inl ⟨by rfl, fun u hu => by obtain ⟨b0, b1, b2, b3, b4, b5, b6, b7, b8, b9, b10⟩ := hu; go_simp⟩) (uh HS0) ?_
 try simp only [Act.put, setX]
 try rw [hW0]
 have HS0' : Hid (W0.cell? ⟨gb, 5, none⟩ = some (.slice (some a) n cl) ∧ W0.cell? a = some (.int .i64 2) ∧ W0.cell? ⟨a.block, a.off + 1, none⟩ = some (.int .i64 p1) ∧ W0.cell? ⟨a.block, a.off + 2, none⟩ = some (.string p2) ∧ W0.cell? ⟨a.block, a.off + 3, none⟩ = some (.slice p3 p4 p5) ∧ W0.cell? ⟨a.block, a.off + 4, none⟩ = some (.slice p6 p7 p8) ∧ W0.cell? ⟨a.block, a.off + 5, none⟩ = some (.int .i64 2) ∧ W0.cell? ⟨a.block, a.off + 5 + 1, none⟩ = some (.int .i64 q1) ∧ W0.cell? ⟨a.block, a.off + 5 + 2, none⟩ = some (.string q2) ∧ W0.cell? ⟨a.block, a.off + 5 + 3, none⟩ = some (.slice q3 q4 q5) ∧ W0.cell? ⟨a.block, a.off + 5 + 4, none⟩ = some (.slice q6 q7 q8)) := hide (by rw [← hW0]; exact uh HS0)
 clear HS0
 have HS0 := HS0'
 refine till_two 8 9 (by kernel_rfl) rfl rfl (fun K hK => ?_) (fun K hK => ?_)
 ·go_simp
  obtain ⟨W1, hW1⟩ : ∃ W1, W0.alloc (.cells #[.int .i64 0, .int .i64 0, .string ⟨#[]⟩, .slice none 0 0, .slice none 0 0] 25) = W1 := ⟨_, rfl⟩
  have X1 : Below W0.heap.size W0 W1 := by rw [← hW1]; exact (Below.refl _ _).alloc (Nat.le_refl _) _
  obtain ⟨b4, hb4⟩ : ∃ b4, W0.heap.size = b4 := ⟨_, rfl⟩
  have N1 : W1.heap[b4]? = some (.cells #[.int .i64 0, .int .i64 0, .string ⟨#[]⟩, .slice none 0 0, .slice none 0 0] 25 (0, 0)) := by rw [← hW1, ← hb4]; exact heap_alloc_new W0 _
  try rw [hW1]
  try rw [hb4]
  have HS1 : Hid (W1.cell? ⟨gb, 5, none⟩ = some (.slice (some a) n cl) ∧ W1.cell? a = some (.int .i64 2) ∧ W1.cell? ⟨a.block, a.off + 1, none⟩ = some (.int .i64 p1) ∧ W1.cell? ⟨a.block, a.off + 2, none⟩ = some (.string p2) ∧ W1.cell? ⟨a.block, a.off + 3, none⟩ = some (.slice p3 p4 p5) ∧ W1.cell? ⟨a.block, a.off + 4, none⟩ = some (.slice p6 p7 p8) ∧ W1.cell? ⟨a.block, a.off + 5, none⟩ = some (.int .i64 2) ∧ W1.cell? ⟨a.block, a.off + 5 + 1, none⟩ = some (.int .i64 q1) ∧ W1.cell? ⟨a.block, a.off + 5 + 2, none⟩ = some (.string q2) ∧ W1.cell? ⟨a.block, a.off + 5 + 3, none⟩ = some (.slice q3 q4 q5) ∧ W1.cell? ⟨a.block, a.off + 5 + 4, none⟩ = some (.slice q6 q7 q8)) := hide ⟨cell_later X1 ((uh HS0).1), cell_later X1 ((uh HS0).2.1), cell_later X1 ((uh HS0).2.2.1), cell_later X1 ((uh HS0).2.2.2.1), cell_later X1 ((uh HS0).2.2.2.2.1), cell_later X1 ((uh HS0).2.2.2.2.2.1), cell_later X1 ((uh HS0).2.2.2.2.2.2.1), cell_later X1 ((uh HS0).2.2.2.2.2.2.2.1), cell_later X1 ((uh HS0).2.2.2.2.2.2.2.2.1), cell_later X1 ((uh HS0).2.2.2.2.2.2.2.2.2.1), cell_later X1 ((uh HS0).2.2.2.2.2.2.2.2.2.2)⟩
  refine hK.out _ _ (Or.inr (uh HS1)) ?_
  clear hK K
  try simp only [Act.put, setX]
  have K1 : Hid (Below v2.heap.size v2 W1 ∧ W1.heap[b4]? = some (.cells #[.int .i64 0, .int .i64 0, .string ⟨#[]⟩, .slice none 0 0, .slice none 0 0] 25 (0, 0)) ∧ v2.heap.size ≤ b4 ∧ b4 < W1.heap.size) := hide ⟨uh HW0 _ X1, N1, by rw [← hb4, ← hs0]; exact Nat.le_refl _, (Array.getElem?_eq_some_iff.1 N1).1⟩
  clear X1 N1 hW1 hb4 HS0
  refine till_one 9 (by kernel_rfl) rfl (fun K hK => ?_)
  go_simp
  obtain ⟨W2, hW2⟩ : ∃ W2, W1.alloc (.cells #[.int .i64 0, .int .i64 0, .string ⟨#[]⟩, .slice none 0 0, .slice none 0 0] 25) = W2 := ⟨_, rfl⟩
  have X2 : Below W1.heap.size W1 W2 := by rw [← hW2]; exact (Below.refl _ _).alloc (Nat.le_refl _) _
  obtain ⟨b5, hb5⟩ : ∃ b5, W1.heap.size = b5 := ⟨_, rfl⟩
  have N2 : W2.heap[b5]? = some (.cells #[.int .i64 0, .int .i64 0, .string ⟨#[]⟩, .slice none 0 0, .slice none 0 0] 25 (0, 0)) := by rw [← hW2, ← hb5]; exact heap_alloc_new W1 _
  try rw [hW2]
  try rw [hb5]
  have HS2 : Hid (W2.cell? ⟨gb, 5, none⟩ = some (.slice (some a) n cl) ∧ W2.cell? a = some (.int .i64 2) ∧ W2.cell? ⟨a.block, a.off + 1, none⟩ = some (.int .i64 p1) ∧ W2.cell? ⟨a.block, a.off + 2, none⟩ = some (.string p2) ∧ W2.cell? ⟨a.block, a.off + 3, none⟩ = some (.slice p3 p4 p5) ∧ W2.cell? ⟨a.block, a.off + 4, none⟩ = some (.slice p6 p7 p8) ∧ W2.cell? ⟨a.block, a.off + 5, none⟩ = some (.int .i64 2) ∧ W2.cell? ⟨a.block, a.off + 5 + 1, none⟩ = some (.int .i64 q1) ∧ W2.cell? ⟨a.block, a.off + 5 + 2, none⟩ = some (.string q2) ∧ W2.cell? ⟨a.block, a.off + 5 + 3, none⟩ = some (.slice q3 q4 q5) ∧ W2.cell? ⟨a.block, a.off + 5 + 4, none⟩ = some (.slice q6 q7 q8)) := hide ⟨cell_later X2 ((uh HS1).1), cell_later X2 ((uh HS1).2.1), cell_later X2 ((uh HS1).2.2.1), cell_later X2 ((uh HS1).2.2.2.1), cell_later X2 ((uh HS1).2.2.2.2.1), cell_later X2 ((uh HS1).2.2.2.2.2.1), cell_later X2 ((uh HS1).2.2.2.2.2.2.1), cell_later X2 ((uh HS1).2.2.2.2.2.2.2.1), cell_later X2 ((uh HS1).2.2.2.2.2.2.2.2.1), cell_later X2 ((uh HS1).2.2.2.2.2.2.2.2.2.1), cell_later X2 ((uh HS1).2.2.2.2.2.2.2.2.2.2)⟩
  refine hK.out _ _ (Or.inr (uh HS2)) ?_
  clear hK K
  try simp only [Act.put, setX]
  have K2 : Hid (Below v2.heap.size v2 W2 ∧ W2.heap[b4]? = some (.cells #[.int .i64 0, .int .i64 0, .string ⟨#[]⟩, .slice none 0 0, .slice none 0 0] 25 (0, 0)) ∧ W2.heap[b5]? = some (.cells #[.int .i64 0, .int .i64 0, .string ⟨#[]⟩, .slice none 0 0, .slice none 0 0] 25 (0, 0)) ∧ v2.heap.size ≤ b4 ∧ v2.heap.size ≤ b5 ∧ b4 ≠ b5) := hide (by
   obtain ⟨k1, k2, k3, k4⟩ := uh K1
   have := k1.size
   exact ⟨k1.trans (X2.mono k1.size), (X2.block b4 k4).trans k2, N2, by omega, by omega, by omega⟩)
  clear X2 N2 hW2 hb5 K1 HS1
  obtain ⟨k1, k2, k3, k4, k5, k6⟩ := uh K2
  have YY2 := hide k1
  obtain ⟨c0, c1, c2, c3, c4⟩ := block5 k2
  obtain ⟨f0, f1, f2, f3, f4⟩ := fr5 k2
  obtain ⟨W3, hW3⟩ : ∃ W3, (((((W2.setCell ⟨b4, 0, none⟩ (.int .i64 2)).setCell ⟨b4, 1, none⟩ (.int .i64 p1)).setCell ⟨b4, 2, none⟩ (.string p2)).setCell ⟨b4, 3, none⟩ (.slice p3 p4 p5)).setCell ⟨b4, 4, none⟩ (.slice p6 p7 p8)) = W3 := ⟨_, rfl⟩
  have M3 : W3.heap[b4]? = some (.cells #[.int .i64 2, .int .i64 p1, .string p2, .slice p3 p4 p5, .slice p6 p7 p8] 25 (0, 0)) := by rw [← hW3]; exact set5P k2 _ _ _ _ _
  have O3 : ∀ b, b ≠ b4 → W3.heap[b]? = W2.heap[b]? := fun b hb => by rw [← hW3, heap_setCell_other _ _ _ _ hb, heap_setCell_other _ _ _ _ hb, heap_setCell_other _ _ _ _ hb, heap_setCell_other _ _ _ _ hb, heap_setCell_other _ _ _ _ hb]
  have Y3 : Below v2.heap.size v2 W3 := by rw [← hW3]; exact set5P_below (uh YY2) (by omega) _ _ _ _ _
  have N35 : W3.heap[b5]? = some (.cells #[.int .i64 0, .int .i64 0, .string ⟨#[]⟩, .slice none 0 0, .slice none 0 0] 25 (0, 0)) := (O3 b5 (Ne.symm k6)).trans k3
  have HS3 : Hid (W3.cell? ⟨gb, 5, none⟩ = some (.slice (some a) n cl) ∧ W3.cell? a = some (.int .i64 2) ∧ W3.cell? ⟨a.block, a.off + 1, none⟩ = some (.int .i64 p1) ∧ W3.cell? ⟨a.block, a.off + 2, none⟩ = some (.string p2) ∧ W3.cell? ⟨a.block, a.off + 3, none⟩ = some (.slice p3 p4 p5) ∧ W3.cell? ⟨a.block, a.off + 4, none⟩ = some (.slice p6 p7 p8) ∧ W3.cell? ⟨a.block, a.off + 5, none⟩ = some (.int .i64 2) ∧ W3.cell? ⟨a.block, a.off + 5 + 1, none⟩ = some (.int .i64 q1) ∧ W3.cell? ⟨a.block, a.off + 5 + 2, none⟩ = some (.string q2) ∧ W3.cell? ⟨a.block, a.off + 5 + 3, none⟩ = some (.slice q3 q4 q5) ∧ W3.cell? ⟨a.block, a.off + 5 + 4, none⟩ = some (.slice q6 q7 q8)) := hide ⟨(Y3.cell (p := ⟨gb, 5, none⟩) hlt0).trans t5, (Y3.cell (p := a) hlt1).trans hA00, (Y3.cell (p := ⟨a.block, a.off + 1, none⟩) hlt1).trans hA01, (Y3.cell (p := ⟨a.block, a.off + 2, none⟩) hlt1).trans hA02, (Y3.cell (p := ⟨a.block, a.off + 3, none⟩) hlt1).trans hA03, (Y3.cell (p := ⟨a.block, a.off + 4, none⟩) hlt1).trans hA04, (Y3.cell (p := ⟨a.block, a.off + 5, none⟩) hlt1).trans hA10, (Y3.cell (p := ⟨a.block, a.off + 5 + 1, none⟩) hlt1).trans hA11, (Y3.cell (p := ⟨a.block, a.off + 5 + 2, none⟩) hlt1).trans hA12, (Y3.cell (p := ⟨a.block, a.off + 5 + 3, none⟩) hlt1).trans hA13, (Y3.cell (p := ⟨a.block, a.off + 5 + 4, none⟩) hlt1).trans hA14⟩
  have K3 : Hid (Below v2.heap.size v2 W3 ∧ W3.heap[b4]? = some (.cells #[.int .i64 2, .int .i64 p1, .string p2, .slice p3 p4 p5, .slice p6 p7 p8] 25 (0, 0)) ∧ W3.heap[b5]? = some (.cells #[.int .i64 0, .int .i64 0, .string ⟨#[]⟩, .slice none 0 0, .slice none 0 0] 25 (0, 0)) ∧ v2.heap.size ≤ b5 ∧ b4 ≠ b5) := hide ⟨Y3, M3, N35, k5, k6⟩
  clear M3 O3 Y3 N35 YY2 k1 k2 k3 k4 k5 k6 K2
  refine till_one 10 (by kernel_rfl) rfl (fun K hK => ?_)
  go_simp
  try rw [hW3]
  refine hK.out _ _ (Or.inr (uh HS3)) ?_
  clear hK K HS2 c0 c1 c2 c3 c4 f0 f1 f2 f3 f4 hW3
  try simp only [Act.put, setX]
  obtain ⟨k1, k2, k3, k4, k5⟩ := uh K3
  have YY3 := hide k1
  obtain ⟨c0, c1, c2, c3, c4⟩ := block5 k3
  obtain ⟨f0, f1, f2, f3, f4⟩ := fr5 k3
  obtain ⟨W4, hW4⟩ : ∃ W4, (((((W3.setCell ⟨b5, 0, none⟩ (.int .i64 2)).setCell ⟨b5, 1, none⟩ (.int .i64 q1)).setCell ⟨b5, 2, none⟩ (.string q2)).setCell ⟨b5, 3, none⟩ (.slice q3 q4 q5)).setCell ⟨b5, 4, none⟩ (.slice q6 q7 q8)) = W4 := ⟨_, rfl⟩
  have M4 : W4.heap[b5]? = some (.cells #[.int .i64 2, .int .i64 q1, .string q2, .slice q3 q4 q5, .slice q6 q7 q8] 25 (0, 0)) := by rw [← hW4]; exact set5P k3 _ _ _ _ _
  have O4 : ∀ b, b ≠ b5 → W4.heap[b]? = W3.heap[b]? := fun b hb => by rw [← hW4, heap_setCell_other _ _ _ _ hb, heap_setCell_other _ _ _ _ hb, heap_setCell_other _ _ _ _ hb, heap_setCell_other _ _ _ _ hb, heap_setCell_other _ _ _ _ hb]
  have Y4 : Below v2.heap.size v2 W4 := by rw [← hW4]; exact set5P_below (uh YY3) (by omega) _ _ _ _ _
  have N44 : W4.heap[b4]? = some (.cells #[.int .i64 2, .int .i64 p1, .string p2, .slice p3 p4 p5, .slice p6 p7 p8] 25 (0, 0)) := (O4 b4 k5).trans k2
  have K4 : Hid (Below v2.heap.size v2 W4 ∧ W4.heap[b4]? = some (.cells #[.int .i64 2, .int .i64 p1, .string p2, .slice p3 p4 p5, .slice p6 p7 p8] 25 (0, 0)) ∧ W4.heap[b5]? = some (.cells #[.int .i64 2, .int .i64 q1, .string q2, .slice q3 q4 q5, .slice q6 q7 q8] 25 (0, 0))) := hide ⟨Y4, N44, M4⟩
  clear M4 O4 Y4 N44 YY3 k1 k2 k3 k4 k5 K3
  refine till_one 11 (by kernel_rfl) rfl (fun K hK => ?_)
  go_simp
  try rw [hW4]
  refine hK.out _ _ (Or.inl (by first | rfl | trivial)) ?_
  clear hK K HS3 c0 c1 c2 c3 c4 f0 f1 f2 f3 f4 hW4
  try simp only [Act.put, setX]
  refine till_done (by kernel_rfl) ?_ _
  obtain ⟨z0, z1, z2, z3, z4⟩ := block5 (uh K4).2.1
  obtain ⟨y0, y1, y2, y3, y4⟩ := block5 (uh K4).2.2
  have CN := hide (number_any (wrap64 (p1 + q1)) W4)
  go_wp2_with fail
  refine (uh CN).mono ?_
  rintro e W5 ⟨rfl, d5⟩
  have X5 : Below v2.heap.size v2 W5 := (uh K4).1.trans (d5.mono (uh K4).1.size)
  have ER : Hid (W5.heap[gr]? = some (.cells #[.int .i64 0, .int .i64 0, .string ⟨#[]⟩, .slice none 0 0, .slice none 0 0] 25 (0, 0))) := hide ((X5.block gr (Array.getElem?_eq_some_iff.1 (uh HM).2.2.1).1).trans (uh HM).2.2.1)
  obtain ⟨r0, r1, r2, r3, r4⟩ := block5 (uh ER)
  obtain ⟨f0, f1, f2, f3, f4⟩ := fr5 (uh ER)
  have BE := hide ((uh HM).1.trans (X5.mono (uh HM).1.size))
  clear d5 X5 CN z0 z1 z2 z3 z4 y0 y1 y2 y3 y4
  go_wp2_with fail
  (try simp only [Exit.inBlock, Exit.then])
  refine bodyPost_ret (ret_ct rfl _ _ gr #[.int .i64 2, .int .i64 (wrap64 (p1 + q1)), .string ⟨#[]⟩, .slice none 0 0, .slice none 0 0] _ _ rfl (set5P (uh ER) _ _ _ _ _) Tryz.underlying25 rfl size_vl) rfl ?_
  exact ⟨rfl, by first | exact set5P_below (uh BE) (uh HM).2.2.2.1 _ _ _ _ _ | (rw [← hgb]; exact set5P_below (uh BE) (uh HM).2.2.2.1 _ _ _ _ _)⟩
 ·go_simp
  obtain ⟨W1, hW1⟩ : ∃ W1, W0.alloc (.cells #[.int .i64 0, .int .i64 0, .string ⟨#[]⟩, .slice none 0 0, .slice none 0 0] 25) = W1 := ⟨_, rfl⟩
  have X1 : Below W0.heap.size W0 W1 := by rw [← hW1]; exact (Below.refl _ _).alloc (Nat.le_refl _) _
  obtain ⟨b5, hb5⟩ : ∃ b5, W0.heap.size = b5 := ⟨_, rfl⟩
  have N1 : W1.heap[b5]? = some (.cells #[.int .i64 0, .int .i64 0, .string ⟨#[]⟩, .slice none 0 0, .slice none 0 0] 25 (0, 0)) := by rw [← hW1, ← hb5]; exact heap_alloc_new W0 _
  try rw [hW1]
  try rw [hb5]
  have HS1 : Hid (W1.cell? ⟨gb, 5, none⟩ = some (.slice (some a) n cl) ∧ W1.cell? a = some (.int .i64 2) ∧ W1.cell? ⟨a.block, a.off + 1, none⟩ = some (.int .i64 p1) ∧ W1.cell? ⟨a.block, a.off + 2, none⟩ = some (.string p2) ∧ W1.cell? ⟨a.block, a.off + 3, none⟩ = some (.slice p3 p4 p5) ∧ W1.cell? ⟨a.block, a.off + 4, none⟩ = some (.slice p6 p7 p8) ∧ W1.cell? ⟨a.block, a.off + 5, none⟩ = some (.int .i64 2) ∧ W1.cell? ⟨a.block, a.off + 5 + 1, none⟩ = some (.int .i64 q1) ∧ W1.cell? ⟨a.block, a.off + 5 + 2, none⟩ = some (.string q2) ∧ W1.cell? ⟨a.block, a.off + 5 + 3, none⟩ = some (.slice q3 q4 q5) ∧ W1.cell? ⟨a.block, a.off + 5 + 4, none⟩ = some (.slice q6 q7 q8)) := hide ⟨cell_later X1 ((uh HS0).1), cell_later X1 ((uh HS0).2.1), cell_later X1 ((uh HS0).2.2.1), cell_later X1 ((uh HS0).2.2.2.1), cell_later X1 ((uh HS0).2.2.2.2.1), cell_later X1 ((uh HS0).2.2.2.2.2.1), cell_later X1 ((uh HS0).2.2.2.2.2.2.1), cell_later X1 ((uh HS0).2.2.2.2.2.2.2.1), cell_later X1 ((uh HS0).2.2.2.2.2.2.2.2.1), cell_later X1 ((uh HS0).2.2.2.2.2.2.2.2.2.1), cell_later X1 ((uh HS0).2.2.2.2.2.2.2.2.2.2)⟩
  refine hK.out _ _ (Or.inr (uh HS1)) ?_
  clear hK K
  try simp only [Act.put, setX]
  have K1 : Hid (Below v2.heap.size v2 W1 ∧ W1.heap[b5]? = some (.cells #[.int .i64 0, .int .i64 0, .string ⟨#[]⟩, .slice none 0 0, .slice none 0 0] 25 (0, 0)) ∧ v2.heap.size ≤ b5 ∧ b5 < W1.heap.size) := hide ⟨uh HW0 _ X1, N1, by rw [← hb5, ← hs0]; exact Nat.le_refl _, (Array.getElem?_eq_some_iff.1 N1).1⟩
  clear X1 N1 hW1 hb5 HS0
  refine till_one 8 (by kernel_rfl) rfl (fun K hK => ?_)
  go_simp
  obtain ⟨W2, hW2⟩ : ∃ W2, W1.alloc (.cells #[.int .i64 0, .int .i64 0, .string ⟨#[]⟩, .slice none 0 0, .slice none 0 0] 25) = W2 := ⟨_, rfl⟩
  have X2 : Below W1.heap.size W1 W2 := by rw [← hW2]; exact (Below.refl _ _).alloc (Nat.le_refl _) _
  obtain ⟨b4, hb4⟩ : ∃ b4, W1.heap.size = b4 := ⟨_, rfl⟩
  have N2 : W2.heap[b4]? = some (.cells #[.int .i64 0, .int .i64 0, .string ⟨#[]⟩, .slice none 0 0, .slice none 0 0] 25 (0, 0)) := by rw [← hW2, ← hb4]; exact heap_alloc_new W1 _
  try rw [hW2]
  try rw [hb4]
  have HS2 : Hid (W2.cell? ⟨gb, 5, none⟩ = some (.slice (some a) n cl) ∧ W2.cell? a = some (.int .i64 2) ∧ W2.cell? ⟨a.block, a.off + 1, none⟩ = some (.int .i64 p1) ∧ W2.cell? ⟨a.block, a.off + 2, none⟩ = some (.string p2) ∧ W2.cell? ⟨a.block, a.off + 3, none⟩ = some (.slice p3 p4 p5) ∧ W2.cell? ⟨a.block, a.off + 4, none⟩ = some (.slice p6 p7 p8) ∧ W2.cell? ⟨a.block, a.off + 5, none⟩ = some (.int .i64 2) ∧ W2.cell? ⟨a.block, a.off + 5 + 1, none⟩ = some (.int .i64 q1) ∧ W2.cell? ⟨a.block, a.off + 5 + 2, none⟩ = some (.string q2) ∧ W2.cell? ⟨a.block, a.off + 5 + 3, none⟩ = some (.slice q3 q4 q5) ∧ W2.cell? ⟨a.block, a.off + 5 + 4, none⟩ = some (.slice q6 q7 q8)) := hide ⟨cell_later X2 ((uh HS1).1), cell_later X2 ((uh HS1).2.1), cell_later X2 ((uh HS1).2.2.1), cell_later X2 ((uh HS1).2.2.2.1), cell_later X2 ((uh HS1).2.2.2.2.1), cell_later X2 ((uh HS1).2.2.2.2.2.1), cell_later X2 ((uh HS1).2.2.2.2.2.2.1), cell_later X2 ((uh HS1).2.2.2.2.2.2.2.1), cell_later X2 ((uh HS1).2.2.2.2.2.2.2.2.1), cell_later X2 ((uh HS1).2.2.2.2.2.2.2.2.2.1), cell_later X2 ((uh HS1).2.2.2.2.2.2.2.2.2.2)⟩
  refine hK.out _ _ (Or.inr (uh HS2)) ?_
  clear hK K
  try simp only [Act.put, setX]
  have K2 : Hid (Below v2.heap.size v2 W2 ∧ W2.heap[b4]? = some (.cells #[.int .i64 0, .int .i64 0, .string ⟨#[]⟩, .slice none 0 0, .slice none 0 0] 25 (0, 0)) ∧ W2.heap[b5]? = some (.cells #[.int .i64 0, .int .i64 0, .string ⟨#[]⟩, .slice none 0 0, .slice none 0 0] 25 (0, 0)) ∧ v2.heap.size ≤ b4 ∧ v2.heap.size ≤ b5 ∧ b4 ≠ b5) := hide (by
   obtain ⟨k1, k2, k3, k4⟩ := uh K1
   have := k1.size
   exact ⟨k1.trans (X2.mono k1.size), N2, (X2.block b5 k4).trans k2, by omega, by omega, by omega⟩)
  clear X2 N2 hW2 hb4 K1 HS1
  obtain ⟨k1, k2, k3, k4, k5, k6⟩ := uh K2
  have YY2 := hide k1
  obtain ⟨c0, c1, c2, c3, c4⟩ := block5 k2
  obtain ⟨f0, f1, f2, f3, f4⟩ := fr5 k2
  obtain ⟨W3, hW3⟩ : ∃ W3, (((((W2.setCell ⟨b4, 0, none⟩ (.int .i64 2)).setCell ⟨b4, 1, none⟩ (.int .i64 p1)).setCell ⟨b4, 2, none⟩ (.string p2)).setCell ⟨b4, 3, none⟩ (.slice p3 p4 p5)).setCell ⟨b4, 4, none⟩ (.slice p6 p7 p8)) = W3 := ⟨_, rfl⟩
  have M3 : W3.heap[b4]? = some (.cells #[.int .i64 2, .int .i64 p1, .string p2, .slice p3 p4 p5, .slice p6 p7 p8] 25 (0, 0)) := by rw [← hW3]; exact set5P k2 _ _ _ _ _
  have O3 : ∀ b, b ≠ b4 → W3.heap[b]? = W2.heap[b]? := fun b hb => by rw [← hW3, heap_setCell_other _ _ _ _ hb, heap_setCell_other _ _ _ _ hb, heap_setCell_other _ _ _ _ hb, heap_setCell_other _ _ _ _ hb, heap_setCell_other _ _ _ _ hb]
  have Y3 : Below v2.heap.size v2 W3 := by rw [← hW3]; exact set5P_below (uh YY2) (by omega) _ _ _ _ _
  have N35 : W3.heap[b5]? = some (.cells #[.int .i64 0, .int .i64 0, .string ⟨#[]⟩, .slice none 0 0, .slice none 0 0] 25 (0, 0)) := (O3 b5 (Ne.symm k6)).trans k3
  have HS3 : Hid (W3.cell? ⟨gb, 5, none⟩ = some (.slice (some a) n cl) ∧ W3.cell? a = some (.int .i64 2) ∧ W3.cell? ⟨a.block, a.off + 1, none⟩ = some (.int .i64 p1) ∧ W3.cell? ⟨a.block, a.off + 2, none⟩ = some (.string p2) ∧ W3.cell? ⟨a.block, a.off + 3, none⟩ = some (.slice p3 p4 p5) ∧ W3.cell? ⟨a.block, a.off + 4, none⟩ = some (.slice p6 p7 p8) ∧ W3.cell? ⟨a.block, a.off + 5, none⟩ = some (.int .i64 2) ∧ W3.cell? ⟨a.block, a.off + 5 + 1, none⟩ = some (.int .i64 q1) ∧ W3.cell? ⟨a.block, a.off + 5 + 2, none⟩ = some (.string q2) ∧ W3.cell? ⟨a.block, a.off + 5 + 3, none⟩ = some (.slice q3 q4 q5) ∧ W3.cell? ⟨a.block, a.off + 5 + 4, none⟩ = some (.slice q6 q7 q8)) := hide ⟨(Y3.cell (p := ⟨gb, 5, none⟩) hlt0).trans t5, (Y3.cell (p := a) hlt1).trans hA00, (Y3.cell (p := ⟨a.block, a.off + 1, none⟩) hlt1).trans hA01, (Y3.cell (p := ⟨a.block, a.off + 2, none⟩) hlt1).trans hA02, (Y3.cell (p := ⟨a.block, a.off + 3, none⟩) hlt1).trans hA03, (Y3.cell (p := ⟨a.block, a.off + 4, none⟩) hlt1).trans hA04, (Y3.cell (p := ⟨a.block, a.off + 5, none⟩) hlt1).trans hA10, (Y3.cell (p := ⟨a.block, a.off + 5 + 1, none⟩) hlt1).trans hA11, (Y3.cell (p := ⟨a.block, a.off + 5 + 2, none⟩) hlt1).trans hA12, (Y3.cell (p := ⟨a.block, a.off + 5 + 3, none⟩) hlt1).trans hA13, (Y3.cell (p := ⟨a.block, a.off + 5 + 4, none⟩) hlt1).trans hA14⟩
  have K3 : Hid (Below v2.heap.size v2 W3 ∧ W3.heap[b4]? = some (.cells #[.int .i64 2, .int .i64 p1, .string p2, .slice p3 p4 p5, .slice p6 p7 p8] 25 (0, 0)) ∧ W3.heap[b5]? = some (.cells #[.int .i64 0, .int .i64 0, .string ⟨#[]⟩, .slice none 0 0, .slice none 0 0] 25 (0, 0)) ∧ v2.heap.size ≤ b5 ∧ b4 ≠ b5) := hide ⟨Y3, M3, N35, k5, k6⟩
  clear M3 O3 Y3 N35 YY2 k1 k2 k3 k4 k5 k6 K2
  refine till_one 10 (by kernel_rfl) rfl (fun K hK => ?_)
  go_simp
  try rw [hW3]
  refine hK.out _ _ (Or.inr (uh HS3)) ?_
  clear hK K HS2 c0 c1 c2 c3 c4 f0 f1 f2 f3 f4 hW3
  try simp only [Act.put, setX]
  obtain ⟨k1, k2, k3, k4, k5⟩ := uh K3
  have YY3 := hide k1
  obtain ⟨c0, c1, c2, c3, c4⟩ := block5 k3
  obtain ⟨f0, f1, f2, f3, f4⟩ := fr5 k3
  obtain ⟨W4, hW4⟩ : ∃ W4, (((((W3.setCell ⟨b5, 0, none⟩ (.int .i64 2)).setCell ⟨b5, 1, none⟩ (.int .i64 q1)).setCell ⟨b5, 2, none⟩ (.string q2)).setCell ⟨b5, 3, none⟩ (.slice q3 q4 q5)).setCell ⟨b5, 4, none⟩ (.slice q6 q7 q8)) = W4 := ⟨_, rfl⟩
  have M4 : W4.heap[b5]? = some (.cells #[.int .i64 2, .int .i64 q1, .string q2, .slice q3 q4 q5, .slice q6 q7 q8] 25 (0, 0)) := by rw [← hW4]; exact set5P k3 _ _ _ _ _
  have O4 : ∀ b, b ≠ b5 → W4.heap[b]? = W3.heap[b]? := fun b hb => by rw [← hW4, heap_setCell_other _ _ _ _ hb, heap_setCell_other _ _ _ _ hb, heap_setCell_other _ _ _ _ hb, heap_setCell_other _ _ _ _ hb, heap_setCell_other _ _ _ _ hb]
  have Y4 : Below v2.heap.size v2 W4 := by rw [← hW4]; exact set5P_below (uh YY3) (by omega) _ _ _ _ _
  have N44 : W4.heap[b4]? = some (.cells #[.int .i64 2, .int .i64 p1, .string p2, .slice p3 p4 p5, .slice p6 p7 p8] 25 (0, 0)) := (O4 b4 k5).trans k2
  have K4 : Hid (Below v2.heap.size v2 W4 ∧ W4.heap[b4]? = some (.cells #[.int .i64 2, .int .i64 p1, .string p2, .slice p3 p4 p5, .slice p6 p7 p8] 25 (0, 0)) ∧ W4.heap[b5]? = some (.cells #[.int .i64 2, .int .i64 q1, .string q2, .slice q3 q4 q5, .slice q6 q7 q8] 25 (0, 0))) := hide ⟨Y4, N44, M4⟩
  clear M4 O4 Y4 N44 YY3 k1 k2 k3 k4 k5 K3
  refine till_one 11 (by kernel_rfl) rfl (fun K hK => ?_)
  go_simp
  try rw [hW4]
  refine hK.out _ _ (Or.inl (by first | rfl | trivial)) ?_
  clear hK K HS3 c0 c1 c2 c3 c4 f0 f1 f2 f3 f4 hW4
  try simp only [Act.put, setX]
  refine till_done (by kernel_rfl) ?_ _
  obtain ⟨z0, z1, z2, z3, z4⟩ := block5 (uh K4).2.1
  obtain ⟨y0, y1, y2, y3, y4⟩ := block5 (uh K4).2.2
  have CN := hide (number_any (wrap64 (p1 + q1)) W4)
  go_wp2_with fail
  refine (uh CN).mono ?_
  rintro e W5 ⟨rfl, d5⟩
  have X5 : Below v2.heap.size v2 W5 := (uh K4).1.trans (d5.mono (uh K4).1.size)
  have ER : Hid (W5.heap[gr]? = some (.cells #[.int .i64 0, .int .i64 0, .string ⟨#[]⟩, .slice none 0 0, .slice none 0 0] 25 (0, 0))) := hide ((X5.block gr (Array.getElem?_eq_some_iff.1 (uh HM).2.2.1).1).trans (uh HM).2.2.1)
  obtain ⟨r0, r1, r2, r3, r4⟩ := block5 (uh ER)
  obtain ⟨f0, f1, f2, f3, f4⟩ := fr5 (uh ER)
  have BE := hide ((uh HM).1.trans (X5.mono (uh HM).1.size))
  clear d5 X5 CN z0 z1 z2 z3 z4 y0 y1 y2 y3 y4
  go_wp2_with fail
  (try simp only [Exit.inBlock, Exit.then])
  refine bodyPost_ret (ret_ct rfl _ _ gr #[.int .i64 2, .int .i64 (wrap64 (p1 + q1)), .string ⟨#[]⟩, .slice none 0 0, .slice none 0 0] _ _ rfl (set5P (uh ER) _ _ _ _ _) Tryz.underlying25 rfl size_vl) rfl ?_
  exact ⟨rfl, by first | exact set5P_below (uh BE) (uh HM).2.2.2.1 _ _ _ _ _ | (rw [← hgb]; exact set5P_below (uh BE) (uh HM).2.2.2.1 _ _ _ _ _)⟩
end Go.Proofs.YtgkmdjmigehmeaaGreatDoor

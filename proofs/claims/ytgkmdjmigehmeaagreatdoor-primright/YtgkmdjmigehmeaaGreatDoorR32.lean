/-
  The operations on whole numbers (prim); no conditions.
-/
import Derived.Test.YtgkmdjmigehmeaaGreatDoorR31
import Derived.Test.YtgkmdjmigehmeaaGreatDoorR02
namespace Go.Proofs.YtgkmdjmigehmeaaGreatDoor
set_option linter.unusedVariables false
set_option linter.unusedSimpArgs false
set_option maxRecDepth 100000
set_option maxHeartbeats 16000000
open Go.RowKit
theorem sub_num (e0 e1 : Int) (e2 : ByteArray) (e3 : Option Addr) (e4 e5 : Nat) (e6 : Option Addr) (e7 e8 : Nat) (a : Addr) (n cl : Nat) (p q : Int) (w : World) (hn : 2 ≤ n) (ha : a.block < w.heap.size) (h0 : w.cell? ⟨a.block, a.off + 1, none⟩ = some (.int .i64 p)) (h1 : w.cell? ⟨a.block, a.off + 5 + 1, none⟩ = some (.int .i64 q)) :
  Calls Tryz.prog 49 #[.agg #[.int .i64 e0, .int .i64 e1, .string e2, .slice e3 e4 e5, .slice e6 e7 e8, .slice (some a) n cl]] w fun e w' => e = .returned (.tuple #[.agg #[.int .i64 2, .int .i64 (IntKind.wrap .i64 (p - q)), .string ⟨#[]⟩, .slice none 0 0, .slice none 0 0], .int .i64 0]) ∧ Below w.heap.size w w' := by
 obtain ⟨gb, hgb⟩ : ∃ gb, w.heap.size = gb := ⟨_, rfl⟩
 obtain ⟨v1, hv1⟩ : ∃ v1, w.alloc (.cells #[.int .i64 e0, .int .i64 e1, .string e2, .slice e3 e4 e5, .slice e6 e7 e8, .slice (some a) n cl] 50) = v1 := ⟨_, rfl⟩
 obtain ⟨gr, hgr⟩ : ∃ gr, v1.heap.size = gr := ⟨_, rfl⟩
 obtain ⟨v2, hv2⟩ : ∃ v2, v1.alloc (.cells #[.int .i64 0, .int .i64 0, .string ⟨#[]⟩, .slice none 0 0, .slice none 0 0] 25) = v2 := ⟨_, rfl⟩
 have n1 : v1.heap[gb]? = some (.cells #[.int .i64 e0, .int .i64 e1, .string e2, .slice e3 e4 e5, .slice e6 e7 e8, .slice (some a) n cl] 50 (0, 0)) := by rw [← hv1, ← hgb]; exact heap_alloc_new w _
 have n2 : v2.heap[gr]? = some (.cells #[.int .i64 0, .int .i64 0, .string ⟨#[]⟩, .slice none 0 0, .slice none 0 0] 25 (0, 0)) := by rw [← hv2, ← hgr]; exact heap_alloc_new v1 _
 have b1 : Below w.heap.size w v1 := by rw [← hv1]; exact (Below.refl _ _).alloc (Nat.le_refl _) _
 have b2 : Below v1.heap.size v1 v2 := by rw [← hv2]; exact (Below.refl _ _).alloc (Nat.le_refl _) _
 have s1 : v1.heap.size = w.heap.size + 1 := by rw [← hv1]; simp
 have HM : Hid (Below w.heap.size w v2 ∧ v2.heap[gb]? = some (.cells #[.int .i64 e0, .int .i64 e1, .string e2, .slice e3 e4 e5, .slice e6 e7 e8, .slice (some a) n cl] 50 (0, 0)) ∧ v2.heap[gr]? = some (.cells #[.int .i64 0, .int .i64 0, .string ⟨#[]⟩, .slice none 0 0, .slice none 0 0] 25 (0, 0)) ∧ w.heap.size ≤ gr ∧ gb ≠ gr ∧ a.block < w.heap.size) := hide ⟨b1.trans (b2.mono b1.size), (b2.block gb (by omega)).trans n1, n2, by omega, by omega, ha⟩
 have hA0 : v2.cell? ⟨a.block, a.off + 1, none⟩ = some (.int .i64 p) := ((uh HM).1.cell (p := ⟨a.block, a.off + 1, none⟩) ha).trans h0
 have hA1 : v2.cell? ⟨a.block, a.off + 5 + 1, none⟩ = some (.int .i64 q) := ((uh HM).1.cell (p := ⟨a.block, a.off + 5 + 1, none⟩) ha).trans h1
 obtain ⟨t0, t1, t2, t3, t4, t5⟩ := block6 (uh HM).2.1
 have hl0 : (0 : Int) < (n : Int) := by omega
 have hl1 : (1 : Int) < (n : Int) := by omega
 clear n1 n2 b1 b2 s1 h0 h1
 go_enter Tryz.func49, Tryz.ntmps49
 go_upto_region 1 with fail
 have HS0 : Hid (v2.drew.cell? ⟨gb, 5, none⟩ = some (.slice (some a) n cl) ∧ v2.drew.cell? ⟨a.block, a.off + 1, none⟩ = some (.int .i64 p) ∧ v2.drew.cell? ⟨a.block, a.off + 5 + 1, none⟩ = some (.int .i64 q)) := hide ⟨t5, hA0, hA1⟩
 refine till_begin (S := fun w' => w'.cell? ⟨gb, 5, none⟩ = some (.slice (some a) n cl) ∧ w'.cell? ⟨a.block, a.off + 1, none⟩ = some (.int .i64 p) ∧ w'.cell? ⟨a.block, a.off + 5 + 1, none⟩ = some (.int .i64 q)) 15 (by kernel_rfl) ?_
 refine till_take 0 (v := .pointer (some ⟨gb, 5, none⟩)) (some 4) rfl rfl rfl (by kernel_rfl) (by kernel_rfl) (by kernel_rfl) (by kernel_rfl) (fun _ _ _ h => h) (Or.inl ⟨by rfl, fun u hu => by obtain ⟨b0, b1, b2⟩ := hu; go_simp⟩) (uh HS0) ?_
 try simp only [Act.put, setX]
 refine till_take 1 (v := .slice (some a) n cl) (some 5) rfl rfl rfl (by kernel_rfl) (by kernel_rfl) (by kernel_rfl) (by kernel_rfl) (fun _ _ _ h => h) (Or.inl ⟨by rfl, fun u hu => by obtain ⟨b0, b1, b2⟩ := hu; go_simp⟩) (uh HS0) ?_
 try simp only [Act.put, setX]
 refine till_take 2 (v := .pointer (some a)) (some 6) rfl rfl rfl (by kernel_rfl) (by kernel_rfl) (by kernel_rfl) (by kernel_rfl) (fun _ _ _ h => h) (Or.inl ⟨by rfl, fun u hu => by obtain ⟨b0, b1, b2⟩ := hu; go_simp; intro hz; omega⟩) (uh HS0) ?_
 try simp only [Act.put, setX]
 refine till_take 3 (v := .pointer (some ⟨a.block, a.off + 1, none⟩)) (some 7) rfl rfl rfl (by kernel_rfl) (by kernel_rfl) (by kernel_rfl) (by kernel_rfl) (fun _ _ _ h => h) (Or.inl ⟨by rfl, fun u hu => by obtain ⟨b0, b1, b2⟩ := hu; go_simp⟩) (uh HS0) ?_
 try simp only [Act.put, setX]
 refine till_take 4 (v := .int .i64 p) (some 8) rfl rfl rfl (by kernel_rfl) (by kernel_rfl) (by kernel_rfl) (by kernel_rfl) (fun _ _ _ h => h) (Or.inl ⟨by rfl, fun u hu => by obtain ⟨b0, b1, b2⟩ := hu; go_simp⟩) (uh HS0) ?_
 try simp only [Act.put, setX]
 refine till_take 5 (v := .pointer (some ⟨gb, 5, none⟩)) (some 9) rfl rfl rfl (by kernel_rfl) (by kernel_rfl) (by kernel_rfl) (by kernel_rfl) (fun _ _ _ h => h) (Or.inl ⟨by rfl, fun u hu => by obtain ⟨b0, b1, b2⟩ := hu; go_simp⟩) (uh HS0) ?_
 try simp only [Act.put, setX]
 refine till_take 6 (v := .slice (some a) n cl) (some 10) rfl rfl rfl (by kernel_rfl) (by kernel_rfl) (by kernel_rfl) (by kernel_rfl) (fun _ _ _ h => h) (Or.inl ⟨by rfl, fun u hu => by obtain ⟨b0, b1, b2⟩ := hu; go_simp⟩) (uh HS0) ?_
 try simp only [Act.put, setX]
 refine till_take 7 (v := .pointer (some ⟨a.block, a.off + 5, none⟩)) (some 11) rfl rfl rfl (by kernel_rfl) (by kernel_rfl) (by kernel_rfl) (by kernel_rfl) (fun _ _ _ h => h) (Or.inl ⟨by rfl, fun u hu => by obtain ⟨b0, b1, b2⟩ := hu; go_simp⟩) (uh HS0) ?_
 try simp only [Act.put, setX]
 refine till_take 8 (v := .pointer (some ⟨a.block, a.off + 5 + 1, none⟩)) (some 12) rfl rfl rfl (by kernel_rfl) (by kernel_rfl) (by kernel_rfl) (by kernel_rfl) (fun _ _ _ h => h) (Or.inl ⟨by rfl, fun u hu => by obtain ⟨b0, b1, b2⟩ := hu; go_simp⟩) (uh HS0) ?_
 try simp only [Act.put, setX]
 refine till_take 9 (v := .int .i64 q) (some 13) rfl rfl rfl (by kernel_rfl) (by kernel_rfl) (by kernel_rfl) (by kernel_rfl) (fun _ _ _ h => h) (Or.inl ⟨by rfl, fun u hu => by obtain ⟨b0, b1, b2⟩ := hu; go_simp⟩) (uh HS0) ?_
 try simp only [Act.put, setX]
 refine till_take 10 (v := .int .i64 (IntKind.wrap .i64 (p - q))) (some 14) rfl rfl rfl (by kernel_rfl) (by kernel_rfl) (by kernel_rfl) (by kernel_rfl) (fun _ _ _ h => h) (Or.inl ⟨by rfl, fun u hu => by obtain ⟨b0, b1, b2⟩ := hu; go_simp⟩) (uh HS0) ?_
 try simp only [Act.put, setX]
 refine till_one 11 (by kernel_rfl) rfl (fun K hK => ?_)
 go_simp
 refine (number_any _ _).mono ?_
 rintro e W2 ⟨rfl, d2⟩
 have X2 : Below v2.heap.size v2 W2 := below_drew_of' d2
 have HS2 : Hid (W2.cell? ⟨gb, 5, none⟩ = some (.slice (some a) n cl) ∧ W2.cell? ⟨a.block, a.off + 1, none⟩ = some (.int .i64 p) ∧ W2.cell? ⟨a.block, a.off + 5 + 1, none⟩ = some (.int .i64 q)) := hide ⟨cell_later X2 t5, cell_later X2 hA0, cell_later X2 hA1⟩
 have HX2 := hide X2
 clear d2 X2
 go_wp2_with fail
 refine hK.out _ _ (Or.inr (uh HS2)) ?_
 clear hK K HS0
 try simp only [Act.put, setX]
 refine till_take 12 (v := .agg #[.int .i64 2, .int .i64 (IntKind.wrap .i64 (p - q)), .string ⟨#[]⟩, .slice none 0 0, .slice none 0 0]) (some 16) rfl rfl rfl (by kernel_rfl) (by kernel_rfl) (by kernel_rfl) (by kernel_rfl) (fun _ _ _ h => h) (Or.inl ⟨by rfl, fun u hu => by obtain ⟨b0, b1, b2⟩ := hu; go_simp⟩) (uh HS2) ?_
 try simp only [Act.put, setX]
 refine till_take 13 (v := .int .i64 0) (some 17) rfl rfl rfl (by kernel_rfl) (by kernel_rfl) (by kernel_rfl) (by kernel_rfl) (fun _ _ _ h => h) (Or.inl ⟨by rfl, fun u hu => by obtain ⟨b0, b1, b2⟩ := hu; go_simp⟩) (uh HS2) ?_
 try simp only [Act.put, setX]
 have ER : Hid (W2.heap[gr]? = some (.cells #[.int .i64 0, .int .i64 0, .string ⟨#[]⟩, .slice none 0 0, .slice none 0 0] 25 (0, 0))) := hide (((uh HX2).block gr (Array.getElem?_eq_some_iff.1 (uh HM).2.2.1).1).trans (uh HM).2.2.1)
 obtain ⟨r0, r1, r2, r3, r4⟩ := block5 (uh ER)
 obtain ⟨f0, f1, f2, f3, f4⟩ := fr5 (uh ER)
 obtain ⟨W3, hW3⟩ : ∃ W3, ((((W2.setCell ⟨gr, 0, none⟩ (.int .i64 2)).setCell ⟨gr, 1, none⟩ (.int .i64 (IntKind.wrap .i64 (p - q)))).setCell ⟨gr, 2, none⟩ (.string ⟨#[]⟩)).setCell ⟨gr, 3, none⟩ (.slice none 0 0)).setCell ⟨gr, 4, none⟩ (.slice none 0 0) = W3 := ⟨_, rfl⟩
 have B3 : Below v2.heap.size w W3 ∨ True := Or.inr trivial
 have BW2 : Below w.heap.size w W2 := (uh HM).1.trans ((uh HX2).mono (uh HM).1.size)
 have HB3 : Hid (Below w.heap.size w W3) := hide (by rw [← hW3]; exact set5P_below BW2 (uh HM).2.2.2.1 _ _ _ _ _)
 have HR3 : Hid (W3.heap[gr]? = some (.cells #[.int .i64 2, .int .i64 (IntKind.wrap .i64 (p - q)), .string ⟨#[]⟩, .slice none 0 0, .slice none 0 0] 25 (0, 0))) := hide (by rw [← hW3]; exact set5P (uh ER) _ _ _ _ _)
 have ho3 : ∀ b, b ≠ gr → W3.heap[b]? = W2.heap[b]? := fun b hb => by rw [← hW3, heap_setCell_other _ _ _ _ hb, heap_setCell_other _ _ _ _ hb, heap_setCell_other _ _ _ _ hb, heap_setCell_other _ _ _ _ hb, heap_setCell_other _ _ _ _ hb]
 have HS3 : Hid (W3.cell? ⟨gb, 5, none⟩ = some (.slice (some a) n cl) ∧ W3.cell? ⟨a.block, a.off + 1, none⟩ = some (.int .i64 p) ∧ W3.cell? ⟨a.block, a.off + 5 + 1, none⟩ = some (.int .i64 q)) := hide (by
  obtain ⟨z0, z1, z2⟩ := uh HS2
  obtain ⟨m1, m2, m3, m4, m5, m6⟩ := uh HM
  have y0 : W3.cell? ⟨gb, 5, none⟩ = W2.cell? ⟨gb, 5, none⟩ := World.cell?_of_block (ho3 gb m5)
  have y1 : W3.cell? ⟨a.block, a.off + 1, none⟩ = W2.cell? ⟨a.block, a.off + 1, none⟩ := World.cell?_of_block (ho3 a.block (by omega))
  have y2 : W3.cell? ⟨a.block, a.off + 5 + 1, none⟩ = W2.cell? ⟨a.block, a.off + 5 + 1, none⟩ := World.cell?_of_block (ho3 a.block (by omega))
  exact ⟨y0.trans z0, y1.trans z1, y2.trans z2⟩)
 clear B3 BW2 ho3
 refine till_one 14 (by kernel_rfl) rfl (fun K hK => ?_)
 go_simp
 try rw [hW3]
 refine hK.out _ _ (Or.inr (uh HS3)) ?_
 clear hK K HS2 HX2 ER r0 r1 r2 r3 r4 f0 f1 f2 f3 f4 hW3
 try simp only [Act.put, setX]
 refine till_one 15 (by kernel_rfl) rfl (fun K hK => ?_)
 go_simp
 refine hK.out _ _ (Or.inr (uh HS3)) ?_
 clear hK K
 try simp only [Act.put, setX]
 refine till_done (by kernel_rfl) ?_ _
 go_wp2_with fail
 (try simp only [Exit.inBlock, Exit.then])
 refine bodyPost_ret (ret_ct rfl _ _ gr #[.int .i64 2, .int .i64 (IntKind.wrap .i64 (p - q)), .string ⟨#[]⟩, .slice none 0 0, .slice none 0 0] _ _ rfl (uh HR3) Tryz.underlying25 rfl size_vl) rfl ?_
 exact ⟨rfl, by first | exact uh HB3 | (rw [← hgb]; exact uh HB3)⟩
theorem mul_num (e0 e1 : Int) (e2 : ByteArray) (e3 : Option Addr) (e4 e5 : Nat) (e6 : Option Addr) (e7 e8 : Nat) (a : Addr) (n cl : Nat) (p q : Int) (w : World) (hn : 2 ≤ n) (ha : a.block < w.heap.size) (h0 : w.cell? ⟨a.block, a.off + 1, none⟩ = some (.int .i64 p)) (h1 : w.cell? ⟨a.block, a.off + 5 + 1, none⟩ = some (.int .i64 q)) :
  Calls Tryz.prog 50 #[.agg #[.int .i64 e0, .int .i64 e1, .string e2, .slice e3 e4 e5, .slice e6 e7 e8, .slice (some a) n cl]] w fun e w' => e = .returned (.tuple #[.agg #[.int .i64 2, .int .i64 (IntKind.wrap .i64 (p * q)), .string ⟨#[]⟩, .slice none 0 0, .slice none 0 0], .int .i64 0]) ∧ Below w.heap.size w w' := by
 obtain ⟨gb, hgb⟩ : ∃ gb, w.heap.size = gb := ⟨_, rfl⟩
 obtain ⟨v1, hv1⟩ : ∃ v1, w.alloc (.cells #[.int .i64 e0, .int .i64 e1, .string e2, .slice e3 e4 e5, .slice e6 e7 e8, .slice (some a) n cl] 50) = v1 := ⟨_, rfl⟩
 obtain ⟨gr, hgr⟩ : ∃ gr, v1.heap.size = gr := ⟨_, rfl⟩
 obtain ⟨v2, hv2⟩ : ∃ v2, v1.alloc (.cells #[.int .i64 0, .int .i64 0, .string ⟨#[]⟩, .slice none 0 0, .slice none 0 0] 25) = v2 := ⟨_, rfl⟩
 have n1 : v1.heap[gb]? = some (.cells #[.int .i64 e0, .int .i64 e1, .string e2, .slice e3 e4 e5, .slice e6 e7 e8, .slice (some a) n cl] 50 (0, 0)) := by rw [← hv1, ← hgb]; exact heap_alloc_new w _
 have n2 : v2.heap[gr]? = some (.cells #[.int .i64 0, .int .i64 0, .string ⟨#[]⟩, .slice none 0 0, .slice none 0 0] 25 (0, 0)) := by rw [← hv2, ← hgr]; exact heap_alloc_new v1 _
 have b1 : Below w.heap.size w v1 := by rw [← hv1]; exact (Below.refl _ _).alloc (Nat.le_refl _) _
 have b2 : Below v1.heap.size v1 v2 := by rw [← hv2]; exact (Below.refl _ _).alloc (Nat.le_refl _) _
 have s1 : v1.heap.size = w.heap.size + 1 := by rw [← hv1]; simp
 have HM : Hid (Below w.heap.size w v2 ∧ v2.heap[gb]? = some (.cells #[.int .i64 e0, .int .i64 e1, .string e2, .slice e3 e4 e5, .slice e6 e7 e8, .slice (some a) n cl] 50 (0, 0)) ∧ v2.heap[gr]? = some (.cells #[.int .i64 0, .int .i64 0, .string ⟨#[]⟩, .slice none 0 0, .slice none 0 0] 25 (0, 0)) ∧ w.heap.size ≤ gr ∧ gb ≠ gr ∧ a.block < w.heap.size) := hide ⟨b1.trans (b2.mono b1.size), (b2.block gb (by omega)).trans n1, n2, by omega, by omega, ha⟩
 have hA0 : v2.cell? ⟨a.block, a.off + 1, none⟩ = some (.int .i64 p) := ((uh HM).1.cell (p := ⟨a.block, a.off + 1, none⟩) ha).trans h0
 have hA1 : v2.cell? ⟨a.block, a.off + 5 + 1, none⟩ = some (.int .i64 q) := ((uh HM).1.cell (p := ⟨a.block, a.off + 5 + 1, none⟩) ha).trans h1
 obtain ⟨t0, t1, t2, t3, t4, t5⟩ := block6 (uh HM).2.1
 have hl0 : (0 : Int) < (n : Int) := by omega
 have hl1 : (1 : Int) < (n : Int) := by omega
 clear n1 n2 b1 b2 s1 h0 h1
 go_enter Tryz.func50, Tryz.ntmps50
 go_upto_region 1 with fail
 have HS0 : Hid (v2.drew.cell? ⟨gb, 5, none⟩ = some (.slice (some a) n cl) ∧ v2.drew.cell? ⟨a.block, a.off + 1, none⟩ = some (.int .i64 p) ∧ v2.drew.cell? ⟨a.block, a.off + 5 + 1, none⟩ = some (.int .i64 q)) := hide ⟨t5, hA0, hA1⟩
 refine till_begin (S := fun w' => w'.cell? ⟨gb, 5, none⟩ = some (.slice (some a) n cl) ∧ w'.cell? ⟨a.block, a.off + 1, none⟩ = some (.int .i64 p) ∧ w'.cell? ⟨a.block, a.off + 5 + 1, none⟩ = some (.int .i64 q)) 15 (by kernel_rfl) ?_
 refine till_take 0 (v := .pointer (some ⟨gb, 5, none⟩)) (some 4) rfl rfl rfl (by kernel_rfl) (by kernel_rfl) (by kernel_rfl) (by kernel_rfl) (fun _ _ _ h => h) (Or.inl ⟨by rfl, fun u hu => by obtain ⟨b0, b1, b2⟩ := hu; go_simp⟩) (uh HS0) ?_
 try simp only [Act.put, setX]
 refine till_take 1 (v := .slice (some a) n cl) (some 5) rfl rfl rfl (by kernel_rfl) (by kernel_rfl) (by kernel_rfl) (by kernel_rfl) (fun _ _ _ h => h) (Or.inl ⟨by rfl, fun u hu => by obtain ⟨b0, b1, b2⟩ := hu; go_simp⟩) (uh HS0) ?_
 try simp only [Act.put, setX]
 refine till_take 2 (v := .pointer (some a)) (some 6) rfl rfl rfl (by kernel_rfl) (by kernel_rfl) (by kernel_rfl) (by kernel_rfl) (fun _ _ _ h => h) (Or.inl ⟨by rfl, fun u hu => by obtain ⟨b0, b1, b2⟩ := hu; go_simp; intro hz; omega⟩) (uh HS0) ?_
 try simp only [Act.put, setX]
 refine till_take 3 (v := .pointer (some ⟨a.block, a.off + 1, none⟩)) (some 7) rfl rfl rfl (by kernel_rfl) (by kernel_rfl) (by kernel_rfl) (by kernel_rfl) (fun _ _ _ h => h) (Or.inl ⟨by rfl, fun u hu => by obtain ⟨b0, b1, b2⟩ := hu; go_simp⟩) (uh HS0) ?_
 try simp only [Act.put, setX]
 refine till_take 4 (v := .int .i64 p) (some 8) rfl rfl rfl (by kernel_rfl) (by kernel_rfl) (by kernel_rfl) (by kernel_rfl) (fun _ _ _ h => h) (Or.inl ⟨by rfl, fun u hu => by obtain ⟨b0, b1, b2⟩ := hu; go_simp⟩) (uh HS0) ?_
 try simp only [Act.put, setX]
 refine till_take 5 (v := .pointer (some ⟨gb, 5, none⟩)) (some 9) rfl rfl rfl (by kernel_rfl) (by kernel_rfl) (by kernel_rfl) (by kernel_rfl) (fun _ _ _ h => h) (Or.inl ⟨by rfl, fun u hu => by obtain ⟨b0, b1, b2⟩ := hu; go_simp⟩) (uh HS0) ?_
 try simp only [Act.put, setX]
 refine till_take 6 (v := .slice (some a) n cl) (some 10) rfl rfl rfl (by kernel_rfl) (by kernel_rfl) (by kernel_rfl) (by kernel_rfl) (fun _ _ _ h => h) (Or.inl ⟨by rfl, fun u hu => by obtain ⟨b0, b1, b2⟩ := hu; go_simp⟩) (uh HS0) ?_
 try simp only [Act.put, setX]
 refine till_take 7 (v := .pointer (some ⟨a.block, a.off + 5, none⟩)) (some 11) rfl rfl rfl (by kernel_rfl) (by kernel_rfl) (by kernel_rfl) (by kernel_rfl) (fun _ _ _ h => h) (Or.inl ⟨by rfl, fun u hu => by obtain ⟨b0, b1, b2⟩ := hu; go_simp⟩) (uh HS0) ?_
 try simp only [Act.put, setX]
 refine till_take 8 (v := .pointer (some ⟨a.block, a.off + 5 + 1, none⟩)) (some 12) rfl rfl rfl (by kernel_rfl) (by kernel_rfl) (by kernel_rfl) (by kernel_rfl) (fun _ _ _ h => h) (Or.inl ⟨by rfl, fun u hu => by obtain ⟨b0, b1, b2⟩ := hu; go_simp⟩) (uh HS0) ?_
 try simp only [Act.put, setX]
 refine till_take 9 (v := .int .i64 q) (some 13) rfl rfl rfl (by kernel_rfl) (by kernel_rfl) (by kernel_rfl) (by kernel_rfl) (fun _ _ _ h => h) (Or.inl ⟨by rfl, fun u hu => by obtain ⟨b0, b1, b2⟩ := hu; go_simp⟩) (uh HS0) ?_
 try simp only [Act.put, setX]
 refine till_take 10 (v := .int .i64 (IntKind.wrap .i64 (p * q))) (some 14) rfl rfl rfl (by kernel_rfl) (by kernel_rfl) (by kernel_rfl) (by kernel_rfl) (fun _ _ _ h => h) (Or.inl ⟨by rfl, fun u hu => by obtain ⟨b0, b1, b2⟩ := hu; go_simp⟩) (uh HS0) ?_
 try simp only [Act.put, setX]
 refine till_one 11 (by kernel_rfl) rfl (fun K hK => ?_)
 go_simp
 refine (number_any _ _).mono ?_
 rintro e W2 ⟨rfl, d2⟩
 have X2 : Below v2.heap.size v2 W2 := below_drew_of' d2
 have HS2 : Hid (W2.cell? ⟨gb, 5, none⟩ = some (.slice (some a) n cl) ∧ W2.cell? ⟨a.block, a.off + 1, none⟩ = some (.int .i64 p) ∧ W2.cell? ⟨a.block, a.off + 5 + 1, none⟩ = some (.int .i64 q)) := hide ⟨cell_later X2 t5, cell_later X2 hA0, cell_later X2 hA1⟩
 have HX2 := hide X2
 clear d2 X2
 go_wp2_with fail
 refine hK.out _ _ (Or.inr (uh HS2)) ?_
 clear hK K HS0
 try simp only [Act.put, setX]
 refine till_take 12 (v := .agg #[.int .i64 2, .int .i64 (IntKind.wrap .i64 (p * q)), .string ⟨#[]⟩, .slice none 0 0, .slice none 0 0]) (some 16) rfl rfl rfl (by kernel_rfl) (by kernel_rfl) (by kernel_rfl) (by kernel_rfl) (fun _ _ _ h => h) (Or.inl ⟨by rfl, fun u hu => by obtain ⟨b0, b1, b2⟩ := hu; go_simp⟩) (uh HS2) ?_
 try simp only [Act.put, setX]
 refine till_take 13 (v := .int .i64 0) (some 17) rfl rfl rfl (by kernel_rfl) (by kernel_rfl) (by kernel_rfl) (by kernel_rfl) (fun _ _ _ h => h) (Or.inl ⟨by rfl, fun u hu => by obtain ⟨b0, b1, b2⟩ := hu; go_simp⟩) (uh HS2) ?_
 try simp only [Act.put, setX]
 have ER : Hid (W2.heap[gr]? = some (.cells #[.int .i64 0, .int .i64 0, .string ⟨#[]⟩, .slice none 0 0, .slice none 0 0] 25 (0, 0))) := hide (((uh HX2).block gr (Array.getElem?_eq_some_iff.1 (uh HM).2.2.1).1).trans (uh HM).2.2.1)
 obtain ⟨r0, r1, r2, r3, r4⟩ := block5 (uh ER)
 obtain ⟨f0, f1, f2, f3, f4⟩ := fr5 (uh ER)
 obtain ⟨W3, hW3⟩ : ∃ W3, ((((W2.setCell ⟨gr, 0, none⟩ (.int .i64 2)).setCell ⟨gr, 1, none⟩ (.int .i64 (IntKind.wrap .i64 (p * q)))).setCell ⟨gr, 2, none⟩ (.string ⟨#[]⟩)).setCell ⟨gr, 3, none⟩ (.slice none 0 0)).setCell ⟨gr, 4, none⟩ (.slice none 0 0) = W3 := ⟨_, rfl⟩
 have B3 : Below v2.heap.size w W3 ∨ True := Or.inr trivial
 have BW2 : Below w.heap.size w W2 := (uh HM).1.trans ((uh HX2).mono (uh HM).1.size)
 have HB3 : Hid (Below w.heap.size w W3) := hide (by rw [← hW3]; exact set5P_below BW2 (uh HM).2.2.2.1 _ _ _ _ _)
 have HR3 : Hid (W3.heap[gr]? = some (.cells #[.int .i64 2, .int .i64 (IntKind.wrap .i64 (p * q)), .string ⟨#[]⟩, .slice none 0 0, .slice none 0 0] 25 (0, 0))) := hide (by rw [← hW3]; exact set5P (uh ER) _ _ _ _ _)
 have ho3 : ∀ b, b ≠ gr → W3.heap[b]? = W2.heap[b]? := fun b hb => by rw [← hW3, heap_setCell_other _ _ _ _ hb, heap_setCell_other _ _ _ _ hb, heap_setCell_other _ _ _ _ hb, heap_setCell_other _ _ _ _ hb, heap_setCell_other _ _ _ _ hb]
 have HS3 : Hid (W3.cell? ⟨gb, 5, none⟩ = some (.slice (some a) n cl) ∧ W3.cell? ⟨a.block, a.off + 1, none⟩ = some (.int .i64 p) ∧ W3.cell? ⟨a.block, a.off + 5 + 1, none⟩ = some (.int .i64 q)) := hide (by
  obtain ⟨z0, z1, z2⟩ := uh HS2
  obtain ⟨m1, m2, m3, m4, m5, m6⟩ := uh HM
  have y0 : W3.cell? ⟨gb, 5, none⟩ = W2.cell? ⟨gb, 5, none⟩ := World.cell?_of_block (ho3 gb m5)
  have y1 : W3.cell? ⟨a.block, a.off + 1, none⟩ = W2.cell? ⟨a.block, a.off + 1, none⟩ := World.cell?_of_block (ho3 a.block (by omega))
  have y2 : W3.cell? ⟨a.block, a.off + 5 + 1, none⟩ = W2.cell? ⟨a.block, a.off + 5 + 1, none⟩ := World.cell?_of_block (ho3 a.block (by omega))
  exact ⟨y0.trans z0, y1.trans z1, y2.trans z2⟩)
 clear B3 BW2 ho3
 refine till_one 14 (by kernel_rfl) rfl (fun K hK => ?_)
 go_simp
 try rw [hW3]
 refine hK.out _ _ (Or.inr (uh HS3)) ?_
 clear hK K HS2 HX2 ER r0 r1 r2 r3 r4 f0 f1 f2 f3 f4 hW3
 try simp only [Act.put, setX]
 refine till_one 15 (by kernel_rfl) rfl (fun K hK => ?_)
 go_simp
 refine hK.out _ _ (Or.inr (uh HS3)) ?_
 clear hK K
 try simp only [Act.put, setX]
 refine till_done (by kernel_rfl) ?_ _
 go_wp2_with fail
 (try simp only [Exit.inBlock, Exit.then])
 refine bodyPost_ret (ret_ct rfl _ _ gr #[.int .i64 2, .int .i64 (IntKind.wrap .i64 (p * q)), .string ⟨#[]⟩, .slice none 0 0, .slice none 0 0] _ _ rfl (uh HR3) Tryz.underlying25 rfl size_vl) rfl ?_
 exact ⟨rfl, by first | exact uh HB3 | (rw [← hgb]; exact uh HB3)⟩
theorem div_num (e0 e1 : Int) (e2 : ByteArray) (e3 : Option Addr) (e4 e5 : Nat) (e6 : Option Addr) (e7 e8 : Nat) (a : Addr) (n cl : Nat) (p q : Int) (w : World) (hn : 2 ≤ n) (ha : a.block < w.heap.size) (h0 : w.cell? ⟨a.block, a.off + 1, none⟩ = some (.int .i64 p)) (h1 : w.cell? ⟨a.block, a.off + 5 + 1, none⟩ = some (.int .i64 q)) (hq : ¬ q = 0) :
  Calls Tryz.prog 51 #[.agg #[.int .i64 e0, .int .i64 e1, .string e2, .slice e3 e4 e5, .slice e6 e7 e8, .slice (some a) n cl]] w fun e w' => e = .returned (.tuple #[.agg #[.int .i64 2, .int .i64 (IntKind.wrap .i64 (p.tdiv q)), .string ⟨#[]⟩, .slice none 0 0, .slice none 0 0], .int .i64 0]) ∧ Below w.heap.size w w' := by
 obtain ⟨gb, hgb⟩ : ∃ gb, w.heap.size = gb := ⟨_, rfl⟩
 obtain ⟨v1, hv1⟩ : ∃ v1, w.alloc (.cells #[.int .i64 e0, .int .i64 e1, .string e2, .slice e3 e4 e5, .slice e6 e7 e8, .slice (some a) n cl] 50) = v1 := ⟨_, rfl⟩
 obtain ⟨gr, hgr⟩ : ∃ gr, v1.heap.size = gr := ⟨_, rfl⟩
 obtain ⟨v2, hv2⟩ : ∃ v2, v1.alloc (.cells #[.int .i64 0, .int .i64 0, .string ⟨#[]⟩, .slice none 0 0, .slice none 0 0] 25) = v2 := ⟨_, rfl⟩
 have n1 : v1.heap[gb]? = some (.cells #[.int .i64 e0, .int .i64 e1, .string e2, .slice e3 e4 e5, .slice e6 e7 e8, .slice (some a) n cl] 50 (0, 0)) := by rw [← hv1, ← hgb]; exact heap_alloc_new w _
 have n2 : v2.heap[gr]? = some (.cells #[.int .i64 0, .int .i64 0, .string ⟨#[]⟩, .slice none 0 0, .slice none 0 0] 25 (0, 0)) := by rw [← hv2, ← hgr]; exact heap_alloc_new v1 _
 have b1 : Below w.heap.size w v1 := by rw [← hv1]; exact (Below.refl _ _).alloc (Nat.le_refl _) _
 have b2 : Below v1.heap.size v1 v2 := by rw [← hv2]; exact (Below.refl _ _).alloc (Nat.le_refl _) _
 have s1 : v1.heap.size = w.heap.size + 1 := by rw [← hv1]; simp
 have HM : Hid (Below w.heap.size w v2 ∧ v2.heap[gb]? = some (.cells #[.int .i64 e0, .int .i64 e1, .string e2, .slice e3 e4 e5, .slice e6 e7 e8, .slice (some a) n cl] 50 (0, 0)) ∧ v2.heap[gr]? = some (.cells #[.int .i64 0, .int .i64 0, .string ⟨#[]⟩, .slice none 0 0, .slice none 0 0] 25 (0, 0)) ∧ w.heap.size ≤ gr ∧ gb ≠ gr ∧ a.block < w.heap.size) := hide ⟨b1.trans (b2.mono b1.size), (b2.block gb (by omega)).trans n1, n2, by omega, by omega, ha⟩
 have hA0 : v2.cell? ⟨a.block, a.off + 1, none⟩ = some (.int .i64 p) := ((uh HM).1.cell (p := ⟨a.block, a.off + 1, none⟩) ha).trans h0
 have hA1 : v2.cell? ⟨a.block, a.off + 5 + 1, none⟩ = some (.int .i64 q) := ((uh HM).1.cell (p := ⟨a.block, a.off + 5 + 1, none⟩) ha).trans h1
 obtain ⟨t0, t1, t2, t3, t4, t5⟩ := block6 (uh HM).2.1
 have hl0 : (0 : Int) < (n : Int) := by omega
 have hl1 : (1 : Int) < (n : Int) := by omega
 have hqb : (q == 0) = false := beq_eq_false_iff_ne.2 hq
 clear n1 n2 b1 b2 s1 h0 h1
 go_enter Tryz.func51, Tryz.ntmps51
 go_upto_region 3 with fail
 have HS0 : Hid (v2.drew.cell? ⟨gb, 5, none⟩ = some (.slice (some a) n cl) ∧ v2.drew.cell? ⟨a.block, a.off + 1, none⟩ = some (.int .i64 p) ∧ v2.drew.cell? ⟨a.block, a.off + 5 + 1, none⟩ = some (.int .i64 q)) := hide ⟨t5, hA0, hA1⟩
 refine till_begin (S := fun w' => w'.cell? ⟨gb, 5, none⟩ = some (.slice (some a) n cl) ∧ w'.cell? ⟨a.block, a.off + 1, none⟩ = some (.int .i64 p) ∧ w'.cell? ⟨a.block, a.off + 5 + 1, none⟩ = some (.int .i64 q)) 15 (by kernel_rfl) ?_
 refine till_take 0 (v := .pointer (some ⟨gb, 5, none⟩)) (some 13) rfl rfl rfl (by kernel_rfl) (by kernel_rfl) (by kernel_rfl) (by kernel_rfl) (fun _ _ _ h => h) (Or.inl ⟨by rfl, fun u hu => by obtain ⟨b0, b1, b2⟩ := hu; go_simp⟩) (uh HS0) ?_
 try simp only [Act.put, setX]
 refine till_take 1 (v := .slice (some a) n cl) (some 14) rfl rfl rfl (by kernel_rfl) (by kernel_rfl) (by kernel_rfl) (by kernel_rfl) (fun _ _ _ h => h) (Or.inl ⟨by rfl, fun u hu => by obtain ⟨b0, b1, b2⟩ := hu; go_simp⟩) (uh HS0) ?_
 try simp only [Act.put, setX]
 refine till_take 2 (v := .pointer (some a)) (some 15) rfl rfl rfl (by kernel_rfl) (by kernel_rfl) (by kernel_rfl) (by kernel_rfl) (fun _ _ _ h => h) (Or.inl ⟨by rfl, fun u hu => by obtain ⟨b0, b1, b2⟩ := hu; go_simp; intro hz; omega⟩) (uh HS0) ?_
 try simp only [Act.put, setX]
 refine till_take 3 (v := .pointer (some ⟨a.block, a.off + 1, none⟩)) (some 16) rfl rfl rfl (by kernel_rfl) (by kernel_rfl) (by kernel_rfl) (by kernel_rfl) (fun _ _ _ h => h) (Or.inl ⟨by rfl, fun u hu => by obtain ⟨b0, b1, b2⟩ := hu; go_simp⟩) (uh HS0) ?_
 try simp only [Act.put, setX]
 refine till_take 4 (v := .int .i64 p) (some 17) rfl rfl rfl (by kernel_rfl) (by kernel_rfl) (by kernel_rfl) (by kernel_rfl) (fun _ _ _ h => h) (Or.inl ⟨by rfl, fun u hu => by obtain ⟨b0, b1, b2⟩ := hu; go_simp⟩) (uh HS0) ?_
 try simp only [Act.put, setX]
 refine till_take 5 (v := .pointer (some ⟨gb, 5, none⟩)) (some 18) rfl rfl rfl (by kernel_rfl) (by kernel_rfl) (by kernel_rfl) (by kernel_rfl) (fun _ _ _ h => h) (Or.inl ⟨by rfl, fun u hu => by obtain ⟨b0, b1, b2⟩ := hu; go_simp⟩) (uh HS0) ?_
 try simp only [Act.put, setX]
 refine till_take 6 (v := .slice (some a) n cl) (some 19) rfl rfl rfl (by kernel_rfl) (by kernel_rfl) (by kernel_rfl) (by kernel_rfl) (fun _ _ _ h => h) (Or.inl ⟨by rfl, fun u hu => by obtain ⟨b0, b1, b2⟩ := hu; go_simp⟩) (uh HS0) ?_
 try simp only [Act.put, setX]
 refine till_take 7 (v := .pointer (some ⟨a.block, a.off + 5, none⟩)) (some 20) rfl rfl rfl (by kernel_rfl) (by kernel_rfl) (by kernel_rfl) (by kernel_rfl) (fun _ _ _ h => h) (Or.inl ⟨by rfl, fun u hu => by obtain ⟨b0, b1, b2⟩ := hu; go_simp⟩) (uh HS0) ?_
 try simp only [Act.put, setX]
 refine till_take 8 (v := .pointer (some ⟨a.block, a.off + 5 + 1, none⟩)) (some 21) rfl rfl rfl (by kernel_rfl) (by kernel_rfl) (by kernel_rfl) (by kernel_rfl) (fun _ _ _ h => h) (Or.inl ⟨by rfl, fun u hu => by obtain ⟨b0, b1, b2⟩ := hu; go_simp⟩) (uh HS0) ?_
 try simp only [Act.put, setX]
 refine till_take 9 (v := .int .i64 q) (some 22) rfl rfl rfl (by kernel_rfl) (by kernel_rfl) (by kernel_rfl) (by kernel_rfl) (fun _ _ _ h => h) (Or.inl ⟨by rfl, fun u hu => by obtain ⟨b0, b1, b2⟩ := hu; go_simp⟩) (uh HS0) ?_
 try simp only [Act.put, setX]
 refine till_take 10 (v := .int .i64 (IntKind.wrap .i64 (p.tdiv q))) (some 23) rfl rfl rfl (by kernel_rfl) (by kernel_rfl) (by kernel_rfl) (by kernel_rfl) (fun _ _ _ h => h) (Or.inl ⟨by rfl, fun u hu => by obtain ⟨b0, b1, b2⟩ := hu; go_simp⟩) (uh HS0) ?_
 try simp only [Act.put, setX]
 refine till_one 11 (by kernel_rfl) rfl (fun K hK => ?_)
 go_simp
 refine (number_any _ _).mono ?_
 rintro e W2 ⟨rfl, d2⟩
 have X2 : Below v2.heap.size v2 W2 := below_drew_of' d2
 have HS2 : Hid (W2.cell? ⟨gb, 5, none⟩ = some (.slice (some a) n cl) ∧ W2.cell? ⟨a.block, a.off + 1, none⟩ = some (.int .i64 p) ∧ W2.cell? ⟨a.block, a.off + 5 + 1, none⟩ = some (.int .i64 q)) := hide ⟨cell_later X2 t5, cell_later X2 hA0, cell_later X2 hA1⟩
 have HX2 := hide X2
 clear d2 X2
 go_wp2_with fail
 refine hK.out _ _ (Or.inr (uh HS2)) ?_
 clear hK K HS0
 try simp only [Act.put, setX]
 refine till_take 12 (v := .agg #[.int .i64 2, .int .i64 (IntKind.wrap .i64 (p.tdiv q)), .string ⟨#[]⟩, .slice none 0 0, .slice none 0 0]) (some 25) rfl rfl rfl (by kernel_rfl) (by kernel_rfl) (by kernel_rfl) (by kernel_rfl) (fun _ _ _ h => h) (Or.inl ⟨by rfl, fun u hu => by obtain ⟨b0, b1, b2⟩ := hu; go_simp⟩) (uh HS2) ?_
 try simp only [Act.put, setX]
 refine till_take 13 (v := .int .i64 0) (some 26) rfl rfl rfl (by kernel_rfl) (by kernel_rfl) (by kernel_rfl) (by kernel_rfl) (fun _ _ _ h => h) (Or.inl ⟨by rfl, fun u hu => by obtain ⟨b0, b1, b2⟩ := hu; go_simp⟩) (uh HS2) ?_
 try simp only [Act.put, setX]
 have ER : Hid (W2.heap[gr]? = some (.cells #[.int .i64 0, .int .i64 0, .string ⟨#[]⟩, .slice none 0 0, .slice none 0 0] 25 (0, 0))) := hide (((uh HX2).block gr (Array.getElem?_eq_some_iff.1 (uh HM).2.2.1).1).trans (uh HM).2.2.1)
 obtain ⟨r0, r1, r2, r3, r4⟩ := block5 (uh ER)
 obtain ⟨f0, f1, f2, f3, f4⟩ := fr5 (uh ER)
 obtain ⟨W3, hW3⟩ : ∃ W3, ((((W2.setCell ⟨gr, 0, none⟩ (.int .i64 2)).setCell ⟨gr, 1, none⟩ (.int .i64 (IntKind.wrap .i64 (p.tdiv q)))).setCell ⟨gr, 2, none⟩ (.string ⟨#[]⟩)).setCell ⟨gr, 3, none⟩ (.slice none 0 0)).setCell ⟨gr, 4, none⟩ (.slice none 0 0) = W3 := ⟨_, rfl⟩
 have B3 : Below v2.heap.size w W3 ∨ True := Or.inr trivial
 have BW2 : Below w.heap.size w W2 := (uh HM).1.trans ((uh HX2).mono (uh HM).1.size)
 have HB3 : Hid (Below w.heap.size w W3) := hide (by rw [← hW3]; exact set5P_below BW2 (uh HM).2.2.2.1 _ _ _ _ _)
 have HR3 : Hid (W3.heap[gr]? = some (.cells #[.int .i64 2, .int .i64 (IntKind.wrap .i64 (p.tdiv q)), .string ⟨#[]⟩, .slice none 0 0, .slice none 0 0] 25 (0, 0))) := hide (by rw [← hW3]; exact set5P (uh ER) _ _ _ _ _)
 have ho3 : ∀ b, b ≠ gr → W3.heap[b]? = W2.heap[b]? := fun b hb => by rw [← hW3, heap_setCell_other _ _ _ _ hb, heap_setCell_other _ _ _ _ hb, heap_setCell_other _ _ _ _ hb, heap_setCell_other _ _ _ _ hb, heap_setCell_other _ _ _ _ hb]
 have HS3 : Hid (W3.cell? ⟨gb, 5, none⟩ = some (.slice (some a) n cl) ∧ W3.cell? ⟨a.block, a.off + 1, none⟩ = some (.int .i64 p) ∧ W3.cell? ⟨a.block, a.off + 5 + 1, none⟩ = some (.int .i64 q)) := hide (by
  obtain ⟨z0, z1, z2⟩ := uh HS2
  obtain ⟨m1, m2, m3, m4, m5, m6⟩ := uh HM
  have y0 : W3.cell? ⟨gb, 5, none⟩ = W2.cell? ⟨gb, 5, none⟩ := World.cell?_of_block (ho3 gb m5)
  have y1 : W3.cell? ⟨a.block, a.off + 1, none⟩ = W2.cell? ⟨a.block, a.off + 1, none⟩ := World.cell?_of_block (ho3 a.block (by omega))
  have y2 : W3.cell? ⟨a.block, a.off + 5 + 1, none⟩ = W2.cell? ⟨a.block, a.off + 5 + 1, none⟩ := World.cell?_of_block (ho3 a.block (by omega))
  exact ⟨y0.trans z0, y1.trans z1, y2.trans z2⟩)
 clear B3 BW2 ho3
 refine till_one 14 (by kernel_rfl) rfl (fun K hK => ?_)
 go_simp
 try rw [hW3]
 refine hK.out _ _ (Or.inr (uh HS3)) ?_
 clear hK K HS2 HX2 ER r0 r1 r2 r3 r4 f0 f1 f2 f3 f4 hW3
 try simp only [Act.put, setX]
 refine till_one 15 (by kernel_rfl) rfl (fun K hK => ?_)
 go_simp
 refine hK.out _ _ (Or.inr (uh HS3)) ?_
 clear hK K
 try simp only [Act.put, setX]
 refine till_done (by kernel_rfl) ?_ _
 go_wp2_with fail
 (try simp only [Exit.inBlock, Exit.then])
 refine bodyPost_ret (ret_ct rfl _ _ gr #[.int .i64 2, .int .i64 (IntKind.wrap .i64 (p.tdiv q)), .string ⟨#[]⟩, .slice none 0 0, .slice none 0 0] _ _ rfl (uh HR3) Tryz.underlying25 rfl size_vl) rfl ?_
 exact ⟨rfl, by first | exact uh HB3 | (rw [← hgb]; exact uh HB3)⟩
theorem div_zero (e0 e1 : Int) (e2 : ByteArray) (e3 : Option Addr) (e4 e5 : Nat) (e6 : Option Addr) (e7 e8 : Nat) (a : Addr) (n cl : Nat) (p q : Int) (w : World) (hn : 2 ≤ n) (ha : a.block < w.heap.size) (h0 : w.cell? ⟨a.block, a.off + 1, none⟩ = some (.int .i64 p)) (h1 : w.cell? ⟨a.block, a.off + 5 + 1, none⟩ = some (.int .i64 q)) (hq : q = 0) :
  Calls Tryz.prog 51 #[.agg #[.int .i64 e0, .int .i64 e1, .string e2, .slice e3 e4 e5, .slice e6 e7 e8, .slice (some a) n cl]] w fun e w' => e = .returned (.tuple #[.agg #[.int .i64 0, .int .i64 0, .string ⟨#[]⟩, .slice none 0 0, .slice none 0 0], .int .i64 1]) ∧ Below w.heap.size w w' := by
 subst hq
 obtain ⟨gb, hgb⟩ : ∃ gb, w.heap.size = gb := ⟨_, rfl⟩
 obtain ⟨v1, hv1⟩ : ∃ v1, w.alloc (.cells #[.int .i64 e0, .int .i64 e1, .string e2, .slice e3 e4 e5, .slice e6 e7 e8, .slice (some a) n cl] 50) = v1 := ⟨_, rfl⟩
 obtain ⟨gr, hgr⟩ : ∃ gr, v1.heap.size = gr := ⟨_, rfl⟩
 obtain ⟨v2, hv2⟩ : ∃ v2, v1.alloc (.cells #[.int .i64 0, .int .i64 0, .string ⟨#[]⟩, .slice none 0 0, .slice none 0 0] 25) = v2 := ⟨_, rfl⟩
 have n1 : v1.heap[gb]? = some (.cells #[.int .i64 e0, .int .i64 e1, .string e2, .slice e3 e4 e5, .slice e6 e7 e8, .slice (some a) n cl] 50 (0, 0)) := by rw [← hv1, ← hgb]; exact heap_alloc_new w _
 have n2 : v2.heap[gr]? = some (.cells #[.int .i64 0, .int .i64 0, .string ⟨#[]⟩, .slice none 0 0, .slice none 0 0] 25 (0, 0)) := by rw [← hv2, ← hgr]; exact heap_alloc_new v1 _
 have b1 : Below w.heap.size w v1 := by rw [← hv1]; exact (Below.refl _ _).alloc (Nat.le_refl _) _
 have b2 : Below v1.heap.size v1 v2 := by rw [← hv2]; exact (Below.refl _ _).alloc (Nat.le_refl _) _
 have s1 : v1.heap.size = w.heap.size + 1 := by rw [← hv1]; simp
 have HM : Hid (Below w.heap.size w v2 ∧ v2.heap[gb]? = some (.cells #[.int .i64 e0, .int .i64 e1, .string e2, .slice e3 e4 e5, .slice e6 e7 e8, .slice (some a) n cl] 50 (0, 0)) ∧ v2.heap[gr]? = some (.cells #[.int .i64 0, .int .i64 0, .string ⟨#[]⟩, .slice none 0 0, .slice none 0 0] 25 (0, 0)) ∧ w.heap.size ≤ gr ∧ gb ≠ gr ∧ a.block < w.heap.size) := hide ⟨b1.trans (b2.mono b1.size), (b2.block gb (by omega)).trans n1, n2, by omega, by omega, ha⟩
 have hA0 : v2.cell? ⟨a.block, a.off + 1, none⟩ = some (.int .i64 p) := ((uh HM).1.cell (p := ⟨a.block, a.off + 1, none⟩) ha).trans h0
 have hA1 : v2.cell? ⟨a.block, a.off + 5 + 1, none⟩ = some (.int .i64 0) := ((uh HM).1.cell (p := ⟨a.block, a.off + 5 + 1, none⟩) ha).trans h1
 obtain ⟨t0, t1, t2, t3, t4, t5⟩ := block6 (uh HM).2.1
 have hl0 : (0 : Int) < (n : Int) := by omega
 have hl1 : (1 : Int) < (n : Int) := by omega
 have CT := hide (trap_any 1 v2)
 clear n1 n2 b1 b2 s1 h0 h1
 go_enter Tryz.func51, Tryz.ntmps51
 go_wp2_with fail
 refine (uh CT).mono ?_
 rintro e W2 ⟨rfl, d2⟩
 have X2 := d2
 have ER : Hid (W2.heap[gr]? = some (.cells #[.int .i64 0, .int .i64 0, .string ⟨#[]⟩, .slice none 0 0, .slice none 0 0] 25 (0, 0))) := hide ((X2.block gr (Array.getElem?_eq_some_iff.1 (uh HM).2.2.1).1).trans (uh HM).2.2.1)
 obtain ⟨r0, r1, r2, r3, r4⟩ := block5 (uh ER)
 obtain ⟨f0, f1, f2, f3, f4⟩ := fr5 (uh ER)
 have BE := hide ((uh HM).1.trans (d2.mono (uh HM).1.size))
 clear d2 X2 CT t0 t1 t2 t3 t4 t5 hA0 hA1
 go_wp2_with fail
 (try simp only [Exit.inBlock, Exit.then])
 refine bodyPost_ret (ret_ct rfl _ _ gr #[.int .i64 0, .int .i64 0, .string ⟨#[]⟩, .slice none 0 0, .slice none 0 0] _ _ rfl (set5P (uh ER) _ _ _ _ _) Tryz.underlying25 rfl size_vl) rfl ?_
 exact ⟨rfl, by first | exact set5P_below (uh BE) (uh HM).2.2.2.1 _ _ _ _ _ | (rw [← hgb]; exact set5P_below (uh BE) (uh HM).2.2.2.1 _ _ _ _ _)⟩
theorem rem_num (e0 e1 : Int) (e2 : ByteArray) (e3 : Option Addr) (e4 e5 : Nat) (e6 : Option Addr) (e7 e8 : Nat) (a : Addr) (n cl : Nat) (p q : Int) (w : World) (hn : 2 ≤ n) (ha : a.block < w.heap.size) (h0 : w.cell? ⟨a.block, a.off + 1, none⟩ = some (.int .i64 p)) (h1 : w.cell? ⟨a.block, a.off + 5 + 1, none⟩ = some (.int .i64 q)) (hq : ¬ q = 0) :
  Calls Tryz.prog 52 #[.agg #[.int .i64 e0, .int .i64 e1, .string e2, .slice e3 e4 e5, .slice e6 e7 e8, .slice (some a) n cl]] w fun e w' => e = .returned (.tuple #[.agg #[.int .i64 2, .int .i64 (p.tmod q), .string ⟨#[]⟩, .slice none 0 0, .slice none 0 0], .int .i64 0]) ∧ Below w.heap.size w w' := by
 obtain ⟨gb, hgb⟩ : ∃ gb, w.heap.size = gb := ⟨_, rfl⟩
 obtain ⟨v1, hv1⟩ : ∃ v1, w.alloc (.cells #[.int .i64 e0, .int .i64 e1, .string e2, .slice e3 e4 e5, .slice e6 e7 e8, .slice (some a) n cl] 50) = v1 := ⟨_, rfl⟩
 obtain ⟨gr, hgr⟩ : ∃ gr, v1.heap.size = gr := ⟨_, rfl⟩
 obtain ⟨v2, hv2⟩ : ∃ v2, v1.alloc (.cells #[.int .i64 0, .int .i64 0, .string ⟨#[]⟩, .slice none 0 0, .slice none 0 0] 25) = v2 := ⟨_, rfl⟩
 have n1 : v1.heap[gb]? = some (.cells #[.int .i64 e0, .int .i64 e1, .string e2, .slice e3 e4 e5, .slice e6 e7 e8, .slice (some a) n cl] 50 (0, 0)) := by rw [← hv1, ← hgb]; exact heap_alloc_new w _
 have n2 : v2.heap[gr]? = some (.cells #[.int .i64 0, .int .i64 0, .string ⟨#[]⟩, .slice none 0 0, .slice none 0 0] 25 (0, 0)) := by rw [← hv2, ← hgr]; exact heap_alloc_new v1 _
 have b1 : Below w.heap.size w v1 := by rw [← hv1]; exact (Below.refl _ _).alloc (Nat.le_refl _) _
 have b2 : Below v1.heap.size v1 v2 := by rw [← hv2]; exact (Below.refl _ _).alloc (Nat.le_refl _) _
 have s1 : v1.heap.size = w.heap.size + 1 := by rw [← hv1]; simp
 have HM : Hid (Below w.heap.size w v2 ∧ v2.heap[gb]? = some (.cells #[.int .i64 e0, .int .i64 e1, .string e2, .slice e3 e4 e5, .slice e6 e7 e8, .slice (some a) n cl] 50 (0, 0)) ∧ v2.heap[gr]? = some (.cells #[.int .i64 0, .int .i64 0, .string ⟨#[]⟩, .slice none 0 0, .slice none 0 0] 25 (0, 0)) ∧ w.heap.size ≤ gr ∧ gb ≠ gr ∧ a.block < w.heap.size) := hide ⟨b1.trans (b2.mono b1.size), (b2.block gb (by omega)).trans n1, n2, by omega, by omega, ha⟩
 have hA0 : v2.cell? ⟨a.block, a.off + 1, none⟩ = some (.int .i64 p) := ((uh HM).1.cell (p := ⟨a.block, a.off + 1, none⟩) ha).trans h0
 have hA1 : v2.cell? ⟨a.block, a.off + 5 + 1, none⟩ = some (.int .i64 q) := ((uh HM).1.cell (p := ⟨a.block, a.off + 5 + 1, none⟩) ha).trans h1
 obtain ⟨t0, t1, t2, t3, t4, t5⟩ := block6 (uh HM).2.1
 have hl0 : (0 : Int) < (n : Int) := by omega
 have hl1 : (1 : Int) < (n : Int) := by omega
 have hqb : (q == 0) = false := beq_eq_false_iff_ne.2 hq
 clear n1 n2 b1 b2 s1 h0 h1
 go_enter Tryz.func52, Tryz.ntmps52
 go_upto_region 3 with fail
 have HS0 : Hid (v2.drew.cell? ⟨gb, 5, none⟩ = some (.slice (some a) n cl) ∧ v2.drew.cell? ⟨a.block, a.off + 1, none⟩ = some (.int .i64 p) ∧ v2.drew.cell? ⟨a.block, a.off + 5 + 1, none⟩ = some (.int .i64 q)) := hide ⟨t5, hA0, hA1⟩
 refine till_begin (S := fun w' => w'.cell? ⟨gb, 5, none⟩ = some (.slice (some a) n cl) ∧ w'.cell? ⟨a.block, a.off + 1, none⟩ = some (.int .i64 p) ∧ w'.cell? ⟨a.block, a.off + 5 + 1, none⟩ = some (.int .i64 q)) 15 (by kernel_rfl) ?_
 refine till_take 0 (v := .pointer (some ⟨gb, 5, none⟩)) (some 13) rfl rfl rfl (by kernel_rfl) (by kernel_rfl) (by kernel_rfl) (by kernel_rfl) (fun _ _ _ h => h) (Or.inl ⟨by rfl, fun u hu => by obtain ⟨b0, b1, b2⟩ := hu; go_simp⟩) (uh HS0) ?_
 try simp only [Act.put, setX]
 refine till_take 1 (v := .slice (some a) n cl) (some 14) rfl rfl rfl (by kernel_rfl) (by kernel_rfl) (by kernel_rfl) (by kernel_rfl) (fun _ _ _ h => h) (Or.inl ⟨by rfl, fun u hu => by obtain ⟨b0, b1, b2⟩ := hu; go_simp⟩) (uh HS0) ?_
 try simp only [Act.put, setX]
 refine till_take 2 (v := .pointer (some a)) (some 15) rfl rfl rfl (by kernel_rfl) (by kernel_rfl) (by kernel_rfl) (by kernel_rfl) (fun _ _ _ h => h) (Or.inl ⟨by rfl, fun u hu => by obtain ⟨b0, b1, b2⟩ := hu; go_simp; intro hz; omega⟩) (uh HS0) ?_
 try simp only [Act.put, setX]
 refine till_take 3 (v := .pointer (some ⟨a.block, a.off + 1, none⟩)) (some 16) rfl rfl rfl (by kernel_rfl) (by kernel_rfl) (by kernel_rfl) (by kernel_rfl) (fun _ _ _ h => h) (Or.inl ⟨by rfl, fun u hu => by obtain ⟨b0, b1, b2⟩ := hu; go_simp⟩) (uh HS0) ?_
 try simp only [Act.put, setX]
 refine till_take 4 (v := .int .i64 p) (some 17) rfl rfl rfl (by kernel_rfl) (by kernel_rfl) (by kernel_rfl) (by kernel_rfl) (fun _ _ _ h => h) (Or.inl ⟨by rfl, fun u hu => by obtain ⟨b0, b1, b2⟩ := hu; go_simp⟩) (uh HS0) ?_
 try simp only [Act.put, setX]
 refine till_take 5 (v := .pointer (some ⟨gb, 5, none⟩)) (some 18) rfl rfl rfl (by kernel_rfl) (by kernel_rfl) (by kernel_rfl) (by kernel_rfl) (fun _ _ _ h => h) (Or.inl ⟨by rfl, fun u hu => by obtain ⟨b0, b1, b2⟩ := hu; go_simp⟩) (uh HS0) ?_
 try simp only [Act.put, setX]
 refine till_take 6 (v := .slice (some a) n cl) (some 19) rfl rfl rfl (by kernel_rfl) (by kernel_rfl) (by kernel_rfl) (by kernel_rfl) (fun _ _ _ h => h) (Or.inl ⟨by rfl, fun u hu => by obtain ⟨b0, b1, b2⟩ := hu; go_simp⟩) (uh HS0) ?_
 try simp only [Act.put, setX]
 refine till_take 7 (v := .pointer (some ⟨a.block, a.off + 5, none⟩)) (some 20) rfl rfl rfl (by kernel_rfl) (by kernel_rfl) (by kernel_rfl) (by kernel_rfl) (fun _ _ _ h => h) (Or.inl ⟨by rfl, fun u hu => by obtain ⟨b0, b1, b2⟩ := hu; go_simp⟩) (uh HS0) ?_
 try simp only [Act.put, setX]
 refine till_take 8 (v := .pointer (some ⟨a.block, a.off + 5 + 1, none⟩)) (some 21) rfl rfl rfl (by kernel_rfl) (by kernel_rfl) (by kernel_rfl) (by kernel_rfl) (fun _ _ _ h => h) (Or.inl ⟨by rfl, fun u hu => by obtain ⟨b0, b1, b2⟩ := hu; go_simp⟩) (uh HS0) ?_
 try simp only [Act.put, setX]
 refine till_take 9 (v := .int .i64 q) (some 22) rfl rfl rfl (by kernel_rfl) (by kernel_rfl) (by kernel_rfl) (by kernel_rfl) (fun _ _ _ h => h) (Or.inl ⟨by rfl, fun u hu => by obtain ⟨b0, b1, b2⟩ := hu; go_simp⟩) (uh HS0) ?_
 try simp only [Act.put, setX]
 refine till_take 10 (v := .int .i64 (p.tmod q)) (some 23) rfl rfl rfl (by kernel_rfl) (by kernel_rfl) (by kernel_rfl) (by kernel_rfl) (fun _ _ _ h => h) (Or.inl ⟨by rfl, fun u hu => by obtain ⟨b0, b1, b2⟩ := hu; go_simp⟩) (uh HS0) ?_
 try simp only [Act.put, setX]
 refine till_one 11 (by kernel_rfl) rfl (fun K hK => ?_)
 go_simp
 refine (number_any _ _).mono ?_
 rintro e W2 ⟨rfl, d2⟩
 have X2 : Below v2.heap.size v2 W2 := below_drew_of' d2
 have HS2 : Hid (W2.cell? ⟨gb, 5, none⟩ = some (.slice (some a) n cl) ∧ W2.cell? ⟨a.block, a.off + 1, none⟩ = some (.int .i64 p) ∧ W2.cell? ⟨a.block, a.off + 5 + 1, none⟩ = some (.int .i64 q)) := hide ⟨cell_later X2 t5, cell_later X2 hA0, cell_later X2 hA1⟩
 have HX2 := hide X2
 clear d2 X2
 go_wp2_with fail
 refine hK.out _ _ (Or.inr (uh HS2)) ?_
 clear hK K HS0
 try simp only [Act.put, setX]
 refine till_take 12 (v := .agg #[.int .i64 2, .int .i64 (p.tmod q), .string ⟨#[]⟩, .slice none 0 0, .slice none 0 0]) (some 25) rfl rfl rfl (by kernel_rfl) (by kernel_rfl) (by kernel_rfl) (by kernel_rfl) (fun _ _ _ h => h) (Or.inl ⟨by rfl, fun u hu => by obtain ⟨b0, b1, b2⟩ := hu; go_simp⟩) (uh HS2) ?_
 try simp only [Act.put, setX]
 refine till_take 13 (v := .int .i64 0) (some 26) rfl rfl rfl (by kernel_rfl) (by kernel_rfl) (by kernel_rfl) (by kernel_rfl) (fun _ _ _ h => h) (Or.inl ⟨by rfl, fun u hu => by obtain ⟨b0, b1, b2⟩ := hu; go_simp⟩) (uh HS2) ?_
 try simp only [Act.put, setX]
 have ER : Hid (W2.heap[gr]? = some (.cells #[.int .i64 0, .int .i64 0, .string ⟨#[]⟩, .slice none 0 0, .slice none 0 0] 25 (0, 0))) := hide (((uh HX2).block gr (Array.getElem?_eq_some_iff.1 (uh HM).2.2.1).1).trans (uh HM).2.2.1)
 obtain ⟨r0, r1, r2, r3, r4⟩ := block5 (uh ER)
 obtain ⟨f0, f1, f2, f3, f4⟩ := fr5 (uh ER)
 obtain ⟨W3, hW3⟩ : ∃ W3, ((((W2.setCell ⟨gr, 0, none⟩ (.int .i64 2)).setCell ⟨gr, 1, none⟩ (.int .i64 (p.tmod q))).setCell ⟨gr, 2, none⟩ (.string ⟨#[]⟩)).setCell ⟨gr, 3, none⟩ (.slice none 0 0)).setCell ⟨gr, 4, none⟩ (.slice none 0 0) = W3 := ⟨_, rfl⟩
 have B3 : Below v2.heap.size w W3 ∨ True := Or.inr trivial
 have BW2 : Below w.heap.size w W2 := (uh HM).1.trans ((uh HX2).mono (uh HM).1.size)
 have HB3 : Hid (Below w.heap.size w W3) := hide (by rw [← hW3]; exact set5P_below BW2 (uh HM).2.2.2.1 _ _ _ _ _)
 have HR3 : Hid (W3.heap[gr]? = some (.cells #[.int .i64 2, .int .i64 (p.tmod q), .string ⟨#[]⟩, .slice none 0 0, .slice none 0 0] 25 (0, 0))) := hide (by rw [← hW3]; exact set5P (uh ER) _ _ _ _ _)
 have ho3 : ∀ b, b ≠ gr → W3.heap[b]? = W2.heap[b]? := fun b hb => by rw [← hW3, heap_setCell_other _ _ _ _ hb, heap_setCell_other _ _ _ _ hb, heap_setCell_other _ _ _ _ hb, heap_setCell_other _ _ _ _ hb, heap_setCell_other _ _ _ _ hb]
 have HS3 : Hid (W3.cell? ⟨gb, 5, none⟩ = some (.slice (some a) n cl) ∧ W3.cell? ⟨a.block, a.off + 1, none⟩ = some (.int .i64 p) ∧ W3.cell? ⟨a.block, a.off + 5 + 1, none⟩ = some (.int .i64 q)) := hide (by
  obtain ⟨z0, z1, z2⟩ := uh HS2
  obtain ⟨m1, m2, m3, m4, m5, m6⟩ := uh HM
  have y0 : W3.cell? ⟨gb, 5, none⟩ = W2.cell? ⟨gb, 5, none⟩ := World.cell?_of_block (ho3 gb m5)
  have y1 : W3.cell? ⟨a.block, a.off + 1, none⟩ = W2.cell? ⟨a.block, a.off + 1, none⟩ := World.cell?_of_block (ho3 a.block (by omega))
  have y2 : W3.cell? ⟨a.block, a.off + 5 + 1, none⟩ = W2.cell? ⟨a.block, a.off + 5 + 1, none⟩ := World.cell?_of_block (ho3 a.block (by omega))
  exact ⟨y0.trans z0, y1.trans z1, y2.trans z2⟩)
 clear B3 BW2 ho3
 refine till_one 14 (by kernel_rfl) rfl (fun K hK => ?_)
 go_simp
 try rw [hW3]
 refine hK.out _ _ (Or.inr (uh HS3)) ?_
 clear hK K HS2 HX2 ER r0 r1 r2 r3 r4 f0 f1 f2 f3 f4 hW3
 try simp only [Act.put, setX]
 refine till_one 15 (by kernel_rfl) rfl (fun K hK => ?_)
 go_simp
 refine hK.out _ _ (Or.inr (uh HS3)) ?_
 clear hK K
 try simp only [Act.put, setX]
 refine till_done (by kernel_rfl) ?_ _
 go_wp2_with fail
 (try simp only [Exit.inBlock, Exit.then])
 refine bodyPost_ret (ret_ct rfl _ _ gr #[.int .i64 2, .int .i64 (p.tmod q), .string ⟨#[]⟩, .slice none 0 0, .slice none 0 0] _ _ rfl (uh HR3) Tryz.underlying25 rfl size_vl) rfl ?_
 exact ⟨rfl, by first | exact uh HB3 | (rw [← hgb]; exact uh HB3)⟩
theorem rem_zero (e0 e1 : Int) (e2 : ByteArray) (e3 : Option Addr) (e4 e5 : Nat) (e6 : Option Addr) (e7 e8 : Nat) (a : Addr) (n cl : Nat) (p q : Int) (w : World) (hn : 2 ≤ n) (ha : a.block < w.heap.size) (h0 : w.cell? ⟨a.block, a.off + 1, none⟩ = some (.int .i64 p)) (h1 : w.cell? ⟨a.block, a.off + 5 + 1, none⟩ = some (.int .i64 q)) (hq : q = 0) :
  Calls Tryz.prog 52 #[.agg #[.int .i64 e0, .int .i64 e1, .string e2, .slice e3 e4 e5, .slice e6 e7 e8, .slice (some a) n cl]] w fun e w' => e = .returned (.tuple #[.agg #[.int .i64 0, .int .i64 0, .string ⟨#[]⟩, .slice none 0 0, .slice none 0 0], .int .i64 1]) ∧ Below w.heap.size w w' := by
 subst hq
 obtain ⟨gb, hgb⟩ : ∃ gb, w.heap.size = gb := ⟨_, rfl⟩
 obtain ⟨v1, hv1⟩ : ∃ v1, w.alloc (.cells #[.int .i64 e0, .int .i64 e1, .string e2, .slice e3 e4 e5, .slice e6 e7 e8, .slice (some a) n cl] 50) = v1 := ⟨_, rfl⟩
 obtain ⟨gr, hgr⟩ : ∃ gr, v1.heap.size = gr := ⟨_, rfl⟩
 obtain ⟨v2, hv2⟩ : ∃ v2, v1.alloc (.cells #[.int .i64 0, .int .i64 0, .string ⟨#[]⟩, .slice none 0 0, .slice none 0 0] 25) = v2 := ⟨_, rfl⟩
 have n1 : v1.heap[gb]? = some (.cells #[.int .i64 e0, .int .i64 e1, .string e2, .slice e3 e4 e5, .slice e6 e7 e8, .slice (some a) n cl] 50 (0, 0)) := by rw [← hv1, ← hgb]; exact heap_alloc_new w _
 have n2 : v2.heap[gr]? = some (.cells #[.int .i64 0, .int .i64 0, .string ⟨#[]⟩, .slice none 0 0, .slice none 0 0] 25 (0, 0)) := by rw [← hv2, ← hgr]; exact heap_alloc_new v1 _
 have b1 : Below w.heap.size w v1 := by rw [← hv1]; exact (Below.refl _ _).alloc (Nat.le_refl _) _
 have b2 : Below v1.heap.size v1 v2 := by rw [← hv2]; exact (Below.refl _ _).alloc (Nat.le_refl _) _
 have s1 : v1.heap.size = w.heap.size + 1 := by rw [← hv1]; simp
 have HM : Hid (Below w.heap.size w v2 ∧ v2.heap[gb]? = some (.cells #[.int .i64 e0, .int .i64 e1, .string e2, .slice e3 e4 e5, .slice e6 e7 e8, .slice (some a) n cl] 50 (0, 0)) ∧ v2.heap[gr]? = some (.cells #[.int .i64 0, .int .i64 0, .string ⟨#[]⟩, .slice none 0 0, .slice none 0 0] 25 (0, 0)) ∧ w.heap.size ≤ gr ∧ gb ≠ gr ∧ a.block < w.heap.size) := hide ⟨b1.trans (b2.mono b1.size), (b2.block gb (by omega)).trans n1, n2, by omega, by omega, ha⟩
 have hA0 : v2.cell? ⟨a.block, a.off + 1, none⟩ = some (.int .i64 p) := ((uh HM).1.cell (p := ⟨a.block, a.off + 1, none⟩) ha).trans h0
 have hA1 : v2.cell? ⟨a.block, a.off + 5 + 1, none⟩ = some (.int .i64 0) := ((uh HM).1.cell (p := ⟨a.block, a.off + 5 + 1, none⟩) ha).trans h1
 obtain ⟨t0, t1, t2, t3, t4, t5⟩ := block6 (uh HM).2.1
 have hl0 : (0 : Int) < (n : Int) := by omega
 have hl1 : (1 : Int) < (n : Int) := by omega
 have CT := hide (trap_any 1 v2)
 clear n1 n2 b1 b2 s1 h0 h1
 go_enter Tryz.func52, Tryz.ntmps52
 go_wp2_with fail
 refine (uh CT).mono ?_
 rintro e W2 ⟨rfl, d2⟩
 have X2 := d2
 have ER : Hid (W2.heap[gr]? = some (.cells #[.int .i64 0, .int .i64 0, .string ⟨#[]⟩, .slice none 0 0, .slice none 0 0] 25 (0, 0))) := hide ((X2.block gr (Array.getElem?_eq_some_iff.1 (uh HM).2.2.1).1).trans (uh HM).2.2.1)
 obtain ⟨r0, r1, r2, r3, r4⟩ := block5 (uh ER)
 obtain ⟨f0, f1, f2, f3, f4⟩ := fr5 (uh ER)
 have BE := hide ((uh HM).1.trans (d2.mono (uh HM).1.size))
 clear d2 X2 CT t0 t1 t2 t3 t4 t5 hA0 hA1
 go_wp2_with fail
 (try simp only [Exit.inBlock, Exit.then])
 refine bodyPost_ret (ret_ct rfl _ _ gr #[.int .i64 0, .int .i64 0, .string ⟨#[]⟩, .slice none 0 0, .slice none 0 0] _ _ rfl (set5P (uh ER) _ _ _ _ _) Tryz.underlying25 rfl size_vl) rfl ?_
 exact ⟨rfl, by first | exact set5P_below (uh BE) (uh HM).2.2.2.1 _ _ _ _ _ | (rw [← hgb]; exact set5P_below (uh BE) (uh HM).2.2.2.1 _ _ _ _ _)⟩
end Go.Proofs.YtgkmdjmigehmeaaGreatDoor

/-
  Layer 17 (parse): literals, operands; conditions: the reader's state.
-/
import Derived.Test.YtgalfhlclmkbfaaGreatDoorC27
set_option linter.unusedVariables false
set_option linter.unusedSimpArgs false
namespace Go.Proofs.YtgalfhlclmkbfaaGreatDoor
open Go.RowKit
set_option linter.unusedVariables false
set_option linter.unusedSimpArgs false

theorem NdP.from {c : Cx} {w w0 u : World} {d : Nat} {r : Rs (List Nd)} {e : Ending} (b : Below w0.heap.size w0 w) (h : NdP c w d r e u) : NdP c w0 d r e u := by
  rcases r with ⟨a, p⟩ | ⟨ns, l⟩
  · exact ⟨h.1, (Beside.of_below b).trans h.2⟩
  · obtain ⟨k, t, vk, vn, vs, f, n, ak, ck, p, S, h1, h2, h3, h4, h5⟩ := h
    exact ⟨k, t, vk, vn, vs, f, n, ak, ck, p, S, h1, h2, h3.low b.size, h4, (Beside.of_below b).trans h5⟩
theorem row_cell5 {w : World} {g : Nat} {x0 x1 x2 x3 x4 : Value} {T : TypeId} (h : w.heap[g]? = some (.cells #[x0, x1, x2, x3, x4] T (0, 0))) :
    w.cell? ⟨g, 0, none⟩ = some x0 ∧ w.cell? ⟨g, 1, none⟩ = some x1 ∧ w.cell? ⟨g, 2, none⟩ = some x2 ∧ w.cell? ⟨g, 3, none⟩ = some x3 ∧ w.cell? ⟨g, 4, none⟩ = some x4 :=
  ⟨by rw [cell_of_row w g 0 _ _ (0, 0) h]; rfl, by rw [cell_of_row w g 1 _ _ (0, 0) h]; rfl, by rw [cell_of_row w g 2 _ _ (0, 0) h]; rfl, by rw [cell_of_row w g 3 _ _ (0, 0) h]; rfl, by rw [cell_of_row w g 4 _ _ (0, 0) h]; rfl⟩

set_option maxRecDepth 100000 in
set_option maxHeartbeats 4000000 in
theorem lit_any {c : Cx} {l : List Tk} {d : Nat} {wz : World} (hz : Rd wz c l d) (hk0 : ¬ (hdT l).k = 0) (vk vn : Nat) (vs : List UInt8) :
    Calls Tryz.prog 126 #[.pointer (some ⟨c.g, 0, none⟩), .agg #[.int .i64 (vk : Int), .int .i64 (vn : Int), .string (bA vs), .slice none 0 0, .slice none 0 0]] wz fun e w' => NdP c wz d (.ok ([⟨13, [], vk, vn, vs, false, [], (hdT l).p⟩], l.tail)) e w' := by
  obtain ⟨r, hr⟩ : ∃ r : Rs (List Nd), r = .ok ([⟨13, [], vk, vn, vs, false, [], (hdT l).p⟩], l.tail) := ⟨_, rfl⟩
  rw [← hr]
  obtain ⟨w, hw0⟩ : ∃ zz, wz.alloc (.cells #[.int .i64 (vk : Int), .int .i64 (vn : Int), .string (bA vs), .slice none 0 0, .slice none 0 0] 26) = zz := ⟨_, rfl⟩
  have b0 : Below wz.heap.size wz w := by rw [← hw0]; exact (Below.refl _ _).alloc (Nat.le_refl _) _
  obtain ⟨V, hV⟩ : ∃ zz, wz.heap.size = zz := ⟨_, rfl⟩
  have hVl : V < w.heap.size := by rw [← hV, ← hw0]; simp
  have HB0 : Hid (w.heap[V]? = some (.cells #[.int .i64 (vk : Int), .int .i64 (vn : Int), .string (bA vs), .slice none 0 0, .slice none 0 0] 26 (0, 0))) := hide (by rw [← hw0, ← hV]; exact heap_alloc_new _ _)
  have h := hz.below b0
  have S1 := hide (St.start h 29 #[.int .i64 0, .string ⟨#[]⟩, .int .i64 0, .int .i64 0, .string ⟨#[]⟩, .slice none 0 0, .slice none 0 0, .bool false, .slice none 0 0, .int .i64 0])
  obtain ⟨w1, hw1⟩ : ∃ w1, w.alloc (.cells #[.int .i64 0, .string ⟨#[]⟩, .int .i64 0, .int .i64 0, .string ⟨#[]⟩, .slice none 0 0, .slice none 0 0, .bool false, .slice none 0 0, .int .i64 0] 29) = w1 := ⟨_, rfl⟩
  rw [hw1] at S1
  obtain ⟨G, hG⟩ : ∃ G, w.heap.size = G := ⟨_, rfl⟩
  have hgw : c.g < w.heap.size := h.cells.2.2.2.2.2
  have b1 : Below w.heap.size w w1 := by rw [← hw1]; exact (Below.refl _ _).alloc (Nat.le_refl _) _
  have HBV_1 := bx_be HB0 b1
  have hgV : c.g < V := by rw [← hV]; exact hz.cells.2.2.2.2.2
  have BZ := hide b0
  have HK0 := hide hk0
  obtain ⟨⟨k, t, n, p⟩, ht⟩ : ∃ t, hdT l = t := ⟨_, rfl⟩
  have HT := hide ht
  rw [ht] at hr
  have HRR := hide hr
  clear h hz hk0 b0 b1 HB0 ht hr
  go_enter Tryz.func126, Tryz.ntmps126
  go_upto_region 1 with fail
  obtain ⟨v0, v1, v2, v3, v4⟩ := row_cell5 (unhide HBV_1)
  have HS0 : Hid (w1.drew.cell? ⟨V, 0, none⟩ = some (.int .i64 (vk : Int)) ∧ w1.drew.cell? ⟨V, 1, none⟩ = some (.int .i64 (vn : Int)) ∧ w1.drew.cell? ⟨V, 2, none⟩ = some (.string (bA vs)) ∧ w1.drew.cell? ⟨V, 3, none⟩ = some (.slice none 0 0) ∧ w1.drew.cell? ⟨V, 4, none⟩ = some (.slice none 0 0)) := hide (⟨v0, v1, v2, v3, v4⟩)
  refine till_begin (S := fun w' => w'.cell? ⟨V, 0, none⟩ = some (.int .i64 (vk : Int)) ∧ w'.cell? ⟨V, 1, none⟩ = some (.int .i64 (vn : Int)) ∧ w'.cell? ⟨V, 2, none⟩ = some (.string (bA vs)) ∧ w'.cell? ⟨V, 3, none⟩ = some (.slice none 0 0) ∧ w'.cell? ⟨V, 4, none⟩ = some (.slice none 0 0)) 5 (by kernel_rfl) ?_
  obtain ⟨w2, hWD⟩ : ∃ zz, w1.drew = zz := ⟨_, rfl⟩
  have bD : Below w1.heap.size w1 w2 := by rw [← hWD]; exact (Below.refl _ _).drew
  rw [hWD] at HS0
  rw [hWD]
  have S2 := hide ((unhide S1).below bD)
  have HBV_2 := bx_be HBV_1 bD
  clear hWD bD S1 HBV_1
  clear v0 v1 v2 v3 v4
  refine till_take 0 (v := .agg #[.int .i64 (vk : Int), .int .i64 (vn : Int), .string (bA vs), .slice none 0 0, .slice none 0 0]) (some 5) rfl rfl rfl (by kernel_rfl) (by kernel_rfl) (by kernel_rfl) (by kernel_rfl) (fun _ _ _ h => h) (Or.inl ⟨by rfl, fun u hu => by obtain ⟨b0, b1, b2, b3, b4⟩ := hu; go_simp⟩) (unhide HS0) ?_
  try simp only [Act.put, List.setIfInBounds_toArray, List.set_cons_zero, List.set_cons_succ]
  refine till_take 1 (v := .pointer (some ⟨c.g, 0, none⟩)) (some 6) rfl rfl rfl (by kernel_rfl) (by kernel_rfl) (by kernel_rfl) (by kernel_rfl) (fun _ _ _ h => h) (Or.inl ⟨by rfl, fun u hu => by obtain ⟨b0, b1, b2, b3, b4⟩ := hu; go_simp⟩) (unhide HS0) ?_
  try simp only [Act.put, List.setIfInBounds_toArray, List.set_cons_zero, List.set_cons_succ]
  have CC := hide (by have := pass_any (unhide S2).rd (unhide HK0); rw [unhide HT] at this; simp only [tkA] at this; exact this)
  refine till_one 2 (by kernel_rfl) rfl (fun K hK => ?_)
  go_simp
  refine (unhide CC).mono ?_
  rintro e w3 ⟨rfl, r2, b⟩
  have S3 := hide ((unhide S2).go b r2)
  have HBV_3 := bx_go HBV_2 b (by omega)
  clear b r2 CC HS0 S2 HBV_2
  have HS0 : Hid (w3.cell? ⟨V, 0, none⟩ = some (.int .i64 (vk : Int)) ∧ w3.cell? ⟨V, 1, none⟩ = some (.int .i64 (vn : Int)) ∧ w3.cell? ⟨V, 2, none⟩ = some (.string (bA vs)) ∧ w3.cell? ⟨V, 3, none⟩ = some (.slice none 0 0) ∧ w3.cell? ⟨V, 4, none⟩ = some (.slice none 0 0)) := hide (by exact row_cell5 (unhide HBV_3))
  go_wp2_with fail
  refine hK.out _ _ (Or.inr (unhide HS0)) ?_
  clear hK K 
  try simp only [Act.put, List.setIfInBounds_toArray, List.set_cons_zero, List.set_cons_succ]
  refine till_one 3 (by kernel_rfl) rfl (fun K hK => ?_)
  refine step_tk3 rfl _ rfl _ _ _ _ rfl ?_
  refine hK.out _ _ (Or.inr (unhide HS0)) ?_
  clear hK K 
  try simp only [Act.put, List.setIfInBounds_toArray, List.set_cons_zero, List.set_cons_succ]
  refine till_take 4 (v := .agg #[.int .i64 13, .string ⟨#[]⟩, .int .i64 (vk : Int), .int .i64 (vn : Int), .string (bA vs), .slice none 0 0, .slice none 0 0, .bool false, .slice none 0 0, .int .i64 (p : Int)]) (some 9) rfl rfl rfl (by kernel_rfl) (by kernel_rfl) (by kernel_rfl) (by kernel_rfl) (fun _ _ _ h => h) (Or.inl ⟨by rfl, fun u hu => by obtain ⟨b0, b1, b2, b3, b4⟩ := hu; go_simp⟩) (unhide HS0) ?_
  try simp only [Act.put, List.setIfInBounds_toArray, List.set_cons_zero, List.set_cons_succ]
  have hnn := NdOk.leaf (lo := w.heap.size + 1) (w := w3) (unhide S3).lt 13 [] vk vn vs false p
  have BX := (unhide S3).bx
  rw [hG] at BX
  have FF := hide (St.done (unhide S3) hnn rfl hG)
  refine till_one 5 (by kernel_rfl) rfl (fun K hK => ?_)
  obtain ⟨g0, g1, g2, g3, g4, g5, g6, g7, g8, g9⟩ := row_cell10 BX
  obtain ⟨z0, z1, z2, z3, z4, z5, z6, z7, z8, z9⟩ := frozen10 BX
  go_simp
  refine hK.out _ _ (Or.inl (by first | rfl | trivial)) ?_
  clear hK K BX g0 z0 g1 z1 g2 z2 g3 z3 g4 z4 g5 z5 g6 z6 g7 z7 g8 z8 g9 z9
  try simp only [Act.put, List.setIfInBounds_toArray, List.set_cons_zero, List.set_cons_succ]
  refine till_done (by kernel_rfl) ?_ _
  go_wp2_with fail
  refine bodyPost_ret (ret_c1 (p := 4) (T := 29) rfl _ _ G _ _ _ rfl (unhide FF).1 Tryz.underlying29 rfl size_nd) rfl ?_
  rw [unhide HRR]
  exact NdP.from (unhide BZ) (unhide FF).2
end Go.Proofs.YtgalfhlclmkbfaaGreatDoor

/-
  Layer 17 (parse): the condition and the block behind it; conditions: the reader's state.
-/
import Derived.Test.YtgalfhlclmkbfaaGreatDoorD11
set_option linter.unusedVariables false
set_option linter.unusedSimpArgs false
namespace Go.Proofs.YtgalfhlclmkbfaaGreatDoor
open Go.RowKit
set_option linter.unusedVariables false
set_option linter.unusedSimpArgs false
set_option maxRecDepth 100000 in
set_option maxHeartbeats 8000000 in
theorem guard_step0 {c : Cx} {l : List Tk} {d : Nat} {w w1 : World} {r : Rs (List Nd)} {f : Nat} (ihe : ∀ {c : Cx} {l : List Tk} {d : Nat} {w : World} {r : Rs (List Nd)}, PJ f 0 0 [] l d = some r → Rd w c l d → Calls Tryz.prog 22 #[.pointer (some ⟨c.g, 0, none⟩)] w fun e w' => NdP c w d r e w') (ihb : ∀ {c : Cx} {l : List Tk} {d : Nat} {w : World} {r : Rs (List Nd)}, PJ f 10 0 [] l d = some r → Rd w c l d → Calls Tryz.prog 54 #[.pointer (some ⟨c.g, 0, none⟩)] w fun e w' => NdP c w d r e w') (hJ : PJ (f + 1) 20 0 [] l d = some r) (hws : w = w1) (h : Rd w1 c l d) :
  Calls Tryz.prog 124 #[.pointer (some ⟨c.g, 0, none⟩)] w1 fun e w' => KsP c w d r e w' := by
 have S1 := hide (St0.start hws h)
 have hgw : c.g < w.heap.size := by rw [hws]; exact h.cells.2.2.2.2.2
 clear h hws
 go_enter Tryz.func124, Tryz.ntmps124
 have HJ0 := hide (show jGuard (PJ f) l d = some r from hJ)
 clear hJ
 have HJ1 := hide ((by have := unhide HJ0; unfold jGuard at this; exact this))
 clear HJ0
 by_cases hb : isS [40] l = true
 ·have hq : isS [40] l = true := by simpa using hb
  have HJ2 := hide (thn_sg hq (unhide HJ1))
  clear HJ1
  have CC := hide (psg_ok (unhide S1).rd [40] hq)
  go_wp2_with fail
  refine (unhide CC).mono ?_
  rintro e w2 ⟨rfl, r2, b⟩
  have S2 := hide ((unhide S1).go b r2)
  clear b r2 CC S1
  obtain ⟨yx, hy, hth⟩ := bnd_some (unhide HJ2)
  have HJ3 := hide (hth)
  clear HJ2
  clear hth
  have CR := hide (ihe hy (unhide S2).rd)
  have HYX := hide hy
  clear hy
  rcases yx with ⟨ea, ep⟩ | ⟨nsx, lx⟩
  ·have HR := hide (thn_err (unhide HJ3))
   go_wp2_with fail
   refine (unhide CR).mono ?_
   rintro e wx ⟨rfl, b⟩
   have HX := hide ((unhide S2).bad b)
   clear b CR
   unfold fltP
   go_wp2_with fail
   exact ⟨rfl, by rw [unhide HR]; exact ⟨rfl, unhide HX⟩⟩
  ·have HJ4 := hide (thn_ok (unhide HJ3))
   clear HJ3
   go_wp2_with fail
   refine (unhide CR).mono ?_
   rintro e w3 ⟨kx, tx, vkx, vnx, vsx, fx, nx, akx, ckx, px, Zx, rfl, hlx, hn, r2, b⟩
   have S3 := hide ((unhide S2).go b r2)
   obtain ⟨lox, hlo⟩ : ∃ zz, w2.heap.size = zz := ⟨_, rfl⟩
   have ltlox : w.heap.size ≤ lox := by rw [← hlo]; exact (unhide S2).lt
   rw [hlo] at hn
   have HNx_3 := hide hn
   clear hlo b r2 hn CR S2
   go_upto_region 3 with fail
   obtain ⟨w4, hw⟩ : ∃ zz, w3.alloc (.cells #[.int .i64 (kx : Int), .string (bA tx), .int .i64 (vkx : Int), .int .i64 (vnx : Int), .string (bA vsx), .slice none 0 0, .slice none 0 0, .bool fx, .slice akx nx ckx, .int .i64 (px : Int)] 29) = zz := ⟨_, rfl⟩
   have b : Below w3.heap.size w3 w4 := by rw [← hw]; exact (Below.refl _ _).alloc (Nat.le_refl _) _
   obtain ⟨Q, hQ⟩ : ∃ zz, w3.heap.size = zz := ⟨_, rfl⟩
   have HBQ_4 : Hid (w4.heap[Q]? = some (.cells #[.int .i64 (kx : Int), .string (bA tx), .int .i64 (vkx : Int), .int .i64 (vnx : Int), .string (bA vsx), .slice none 0 0, .slice none 0 0, .bool fx, .slice akx nx ckx, .int .i64 (px : Int)] 29 (0, 0))) := hide (by rw [← hw, ← hQ]; exact heap_alloc_new _ _)
   have S4 := hide ((unhide S3).below b)
   have HNx_4 := hide ((unhide HNx_3).beside (Beside.of_below (gr := c.g) b) (by omega))
   have ANx_Q := hide ((unhide HNx_3).fresh hQ)
   have ltQ : w.heap.size ≤ Q := by rw [← hQ]; exact (unhide S3).lt
   rw [hw]
   try rw [hQ]
   clear hw hQ b S3 HNx_3
   by_cases hb : isS [41] lx = true
   ·have hq : isS [41] lx = true := by simpa using hb
    have HJ5 := hide (thn_sg hq (unhide HJ4))
    clear HJ4
    have CC := hide (psg_ok (unhide S4).rd [41] hq)
    go_wp2_with fail
    refine (unhide CC).mono ?_
    rintro e w5 ⟨rfl, r2, b⟩
    have S5 := hide ((unhide S4).go b r2)
    have HBQ_5 := bx_go HBQ_4 b (by omega)
    have HNx_5 := hide ((unhide HNx_4).beside b (by omega))
    clear b r2 CC S4 HBQ_4 HNx_4
    go_upto_region 4 with fail
    obtain ⟨Qc0, Qc1, Qc2, Qc3, Qc4, Qc5, Qc6, Qc7, Qc8, Qc9⟩ := row_cell10 (unhide HBQ_5)
    have HS0 : Hid (w5.drew.cell? ⟨Q, 0, none⟩ = some (.int .i64 (kx : Int)) ∧ w5.drew.cell? ⟨Q, 1, none⟩ = some (.string (bA tx)) ∧ w5.drew.cell? ⟨Q, 2, none⟩ = some (.int .i64 (vkx : Int)) ∧ w5.drew.cell? ⟨Q, 3, none⟩ = some (.int .i64 (vnx : Int)) ∧ w5.drew.cell? ⟨Q, 4, none⟩ = some (.string (bA vsx)) ∧ w5.drew.cell? ⟨Q, 5, none⟩ = some (.slice none 0 0) ∧ w5.drew.cell? ⟨Q, 6, none⟩ = some (.slice none 0 0) ∧ w5.drew.cell? ⟨Q, 7, none⟩ = some (.bool fx) ∧ w5.drew.cell? ⟨Q, 8, none⟩ = some (.slice akx nx ckx) ∧ w5.drew.cell? ⟨Q, 9, none⟩ = some (.int .i64 (px : Int))) := hide (⟨Qc0, Qc1, Qc2, Qc3, Qc4, Qc5, Qc6, Qc7, Qc8, Qc9⟩)
    refine till_begin (S := fun w' => w'.cell? ⟨Q, 0, none⟩ = some (.int .i64 (kx : Int)) ∧ w'.cell? ⟨Q, 1, none⟩ = some (.string (bA tx)) ∧ w'.cell? ⟨Q, 2, none⟩ = some (.int .i64 (vkx : Int)) ∧ w'.cell? ⟨Q, 3, none⟩ = some (.int .i64 (vnx : Int)) ∧ w'.cell? ⟨Q, 4, none⟩ = some (.string (bA vsx)) ∧ w'.cell? ⟨Q, 5, none⟩ = some (.slice none 0 0) ∧ w'.cell? ⟨Q, 6, none⟩ = some (.slice none 0 0) ∧ w'.cell? ⟨Q, 7, none⟩ = some (.bool fx) ∧ w'.cell? ⟨Q, 8, none⟩ = some (.slice akx nx ckx) ∧ w'.cell? ⟨Q, 9, none⟩ = some (.int .i64 (px : Int))) 4 (by kernel_rfl) ?_
    obtain ⟨w6, hWD⟩ : ∃ zz, w5.drew = zz := ⟨_, rfl⟩
    have bD : Below w5.heap.size w5 w6 := by rw [← hWD]; exact (Below.refl _ _).drew
    rw [hWD] at HS0
    rw [hWD]
    have S6 := hide ((unhide S5).below bD)
    have HBQ_6 := bx_be HBQ_5 bD
    have HNx_6 := hide ((unhide HNx_5).beside (Beside.of_below (gr := c.g) bD) (by omega))
    clear hWD bD S5 HBQ_5 HNx_5
    clear Qc0 Qc1 Qc2 Qc3 Qc4 Qc5 Qc6 Qc7 Qc8 Qc9
    refine till_take 0 (v := .agg #[.int .i64 (kx : Int), .string (bA tx), .int .i64 (vkx : Int), .int .i64 (vnx : Int), .string (bA vsx), .slice none 0 0, .slice none 0 0, .bool fx, .slice akx nx ckx, .int .i64 (px : Int)]) (some 10) rfl rfl rfl (by kernel_rfl) (by kernel_rfl) (by kernel_rfl) (by kernel_rfl) (fun _ _ _ h => h) (Or.inl ⟨by rfl, fun u hu => by obtain ⟨b0, b1, b2, b3, b4, b5, b6, b7, b8, b9⟩ := hu; go_simp⟩) (unhide HS0) ?_
    try simp only [Act.put, List.setIfInBounds_toArray, List.set_cons_zero, List.set_cons_succ]
    refine till_take 1 (v := .pointer (some ⟨c.g, 0, none⟩)) (some 11) rfl rfl rfl (by kernel_rfl) (by kernel_rfl) (by kernel_rfl) (by kernel_rfl) (fun _ _ _ h => h) (Or.inl ⟨by rfl, fun u hu => by obtain ⟨b0, b1, b2, b3, b4, b5, b6, b7, b8, b9⟩ := hu; go_simp⟩) (unhide HS0) ?_
    try simp only [Act.put, List.setIfInBounds_toArray, List.set_cons_zero, List.set_cons_succ]
    obtain ⟨yy, hy, hth⟩ := bnd_some (unhide HJ5)
    have HJ6 := hide (hth)
    clear HJ5
    clear hth
    have CR := hide (ihb hy (unhide S6).rd)
    have HYX := hide hy
    clear hy
    rcases yy with ⟨ea, ep⟩ | ⟨nsy, ly⟩
    ·have HR := hide (thn_err (unhide HJ6))
     refine till_one 2 (by kernel_rfl) rfl (fun K hK => ?_)
     go_simp
     refine (unhide CR).mono ?_
     rintro e wx ⟨rfl, b⟩
     have HX := hide ((unhide S6).bad b)
     clear b CR
     unfold fltP
     go_wp2_with fail
     exact ⟨rfl, by rw [unhide HR]; exact ⟨rfl, unhide HX⟩⟩
    ·have HJ7 := hide (thn_ok (unhide HJ6))
     clear HJ6
     refine till_one 2 (by kernel_rfl) rfl (fun K hK => ?_)
     go_simp
     refine (unhide CR).mono ?_
     rintro e w7 ⟨ky, ty, vky, vny, vsy, fy, ny, aky, cky, py, Zy, rfl, hly, hn, r2, b⟩
     have S7 := hide ((unhide S6).go b r2)
     have HBQ_7 := bx_go HBQ_6 b (by omega)
     have HNx_7 := hide ((unhide HNx_6).beside b (by omega))
     obtain ⟨loy, hlo⟩ : ∃ zz, w6.heap.size = zz := ⟨_, rfl⟩
     have ltloy : w.heap.size ≤ loy := by rw [← hlo]; exact (unhide S6).lt
     have lqQ_y : Q < loy := by rw [← hlo]; exact (Array.getElem?_eq_some_iff.1 (unhide HBQ_6)).1
     have HMx_y : Hid (∀ b ∈ Zx, b < loy) := hide (fun b hb => by rw [← hlo]; exact ((unhide HNx_6).rg b hb).2)
     have lex_y : lox ≤ loy := by rw [← hlo]; exact (unhide HNx_6).le
     rw [hlo] at hn
     have HNy_7 := hide hn
     clear hlo b r2 hn CR S6 HBQ_6 HNx_6
     clear HS0
     have HS0 : Hid (w7.cell? ⟨Q, 0, none⟩ = some (.int .i64 (kx : Int)) ∧ w7.cell? ⟨Q, 1, none⟩ = some (.string (bA tx)) ∧ w7.cell? ⟨Q, 2, none⟩ = some (.int .i64 (vkx : Int)) ∧ w7.cell? ⟨Q, 3, none⟩ = some (.int .i64 (vnx : Int)) ∧ w7.cell? ⟨Q, 4, none⟩ = some (.string (bA vsx)) ∧ w7.cell? ⟨Q, 5, none⟩ = some (.slice none 0 0) ∧ w7.cell? ⟨Q, 6, none⟩ = some (.slice none 0 0) ∧ w7.cell? ⟨Q, 7, none⟩ = some (.bool fx) ∧ w7.cell? ⟨Q, 8, none⟩ = some (.slice akx nx ckx) ∧ w7.cell? ⟨Q, 9, none⟩ = some (.int .i64 (px : Int))) := hide (by exact row_cell10 (unhide HBQ_7))
     go_wp2_with fail
     refine hK.out _ _ (Or.inr (unhide HS0)) ?_
     clear hK K 
     try simp only [Act.put, List.setIfInBounds_toArray, List.set_cons_zero, List.set_cons_succ]
     have hr1 := okN_some (unhide HJ7)
     have HR := hide hr1
     clear hr1
     have hkn := hide ((unhide HNx_7).app (unhide HMx_y) (unhide HNy_7) (by omega))
     obtain ⟨w8, hwr⟩ : ∃ zz, w7.alloc (.cells #[.int .i64 (kx : Int), .string (bA tx), .int .i64 (vkx : Int), .int .i64 (vnx : Int), .string (bA vsx), .slice none 0 0, .slice none 0 0, .bool fx, .slice akx nx ckx, .int .i64 (px : Int), .int .i64 (ky : Int), .string (bA ty), .int .i64 (vky : Int), .int .i64 (vny : Int), .string (bA vsy), .slice none 0 0, .slice none 0 0, .bool fy, .slice aky ny cky, .int .i64 (py : Int)] 29) = zz := ⟨_, rfl⟩
     have b : Below w7.heap.size w7 w8 := by rw [← hwr]; exact (Below.refl _ _).alloc (Nat.le_refl _) _
     obtain ⟨qr, hqr⟩ : ∃ zz, w7.heap.size = zz := ⟨_, rfl⟩
     have HKr_8 : Hid (Kr lox w8 _ (.slice (some ⟨qr, 0, none⟩) _ _) [.int .i64 (kx : Int), .string (bA tx), .int .i64 (vkx : Int), .int .i64 (vnx : Int), .string (bA vsx), .slice none 0 0, .slice none 0 0, .bool fx, .slice akx nx ckx, .int .i64 (px : Int), .int .i64 (ky : Int), .string (bA ty), .int .i64 (vky : Int), .int .i64 (vny : Int), .string (bA vsy), .slice none 0 0, .slice none 0 0, .bool fy, .slice aky ny cky, .int .i64 (py : Int)] _) := hide (by rw [← hwr, ← hqr]; exact Kr.mk' (unhide hkn) (by rw [show (nsx ++ nsy).length = 2 by rw [List.length_append, hlx, hly]]; decide))
     rw [show (nsx ++ nsy).length = 2 by rw [List.length_append, hlx, hly]] at HKr_8
     have ltr : w.heap.size ≤ qr := by rw [← hqr]; exact (unhide S7).lt
     have S8 := hide ((unhide S7).below b)
     have HBQ_8 := bx_be HBQ_7 b
     clear b hkn S7 HBQ_7 HNx_7 HNy_7
     refine till_one 3 (by kernel_rfl) rfl (fun K hK => ?_)
     go_simp
     try rw [hwr]
     try rw [hqr]
     clear HS0
     have HS0 : Hid (w8.cell? ⟨Q, 0, none⟩ = some (.int .i64 (kx : Int)) ∧ w8.cell? ⟨Q, 1, none⟩ = some (.string (bA tx)) ∧ w8.cell? ⟨Q, 2, none⟩ = some (.int .i64 (vkx : Int)) ∧ w8.cell? ⟨Q, 3, none⟩ = some (.int .i64 (vnx : Int)) ∧ w8.cell? ⟨Q, 4, none⟩ = some (.string (bA vsx)) ∧ w8.cell? ⟨Q, 5, none⟩ = some (.slice none 0 0) ∧ w8.cell? ⟨Q, 6, none⟩ = some (.slice none 0 0) ∧ w8.cell? ⟨Q, 7, none⟩ = some (.bool fx) ∧ w8.cell? ⟨Q, 8, none⟩ = some (.slice akx nx ckx) ∧ w8.cell? ⟨Q, 9, none⟩ = some (.int .i64 (px : Int))) := hide (by exact row_cell10 (unhide HBQ_8))
     refine hK.out _ _ (Or.inr (unhide HS0)) ?_
     clear hK K hwr hqr
     try simp only [Act.put, List.setIfInBounds_toArray, List.set_cons_zero, List.set_cons_succ]
     refine till_one 4 (by kernel_rfl) rfl (fun K hK => ?_)
     go_simp
     refine hK.out _ _ (Or.inl (by first | rfl | trivial)) ?_
     clear hK K HS0
     try simp only [Act.put, List.setIfInBounds_toArray, List.set_cons_zero, List.set_cons_succ]
     refine till_done (by kernel_rfl) ?_ _
     go_wp2_with fail
     go_ret
     rw [unhide HR]
     exact ⟨some ⟨qr, 0, none⟩, 2, _, _, by rw [show (nsx ++ nsy).length = 2 by rw [List.length_append, hlx, hly]]; rfl, by rw [show (nsx ++ nsy).length = 2 by rw [List.length_append, hlx, hly]]; exact (unhide HKr_8).low (by omega), (unhide S8).rd, (unhide S8).bs⟩
   ·have hq : isS [41] lx = false := by simpa using hb
    have CC := hide (psg_bad (unhide S4).rd [41] hq)
    have HR := hide (thn_sgb hq (unhide HJ4))
    go_wp2_with fail
    refine (unhide CC).mono ?_
    rintro e wx ⟨rfl, b⟩
    have HX := hide ((unhide S4).bad b)
    clear b CC
    unfold fltP
    go_wp2_with fail
    exact ⟨rfl, by rw [unhide HR]; exact ⟨rfl, unhide HX⟩⟩
 ·have hq : isS [40] l = false := by simpa using hb
  have CC := hide (psg_bad (unhide S1).rd [40] hq)
  have HR := hide (thn_sgb hq (unhide HJ1))
  go_wp2_with fail
  refine (unhide CC).mono ?_
  rintro e wx ⟨rfl, b⟩
  have HX := hide ((unhide S1).bad b)
  clear b CC
  unfold fltP
  go_wp2_with fail
  exact ⟨rfl, by rw [unhide HR]; exact ⟨rfl, unhide HX⟩⟩
set_option maxRecDepth 100000 in
set_option maxHeartbeats 4000000 in
theorem loop_step {c : Cx} {l : List Tk} {d : Nat} {w : World} {r : Rs (List Nd)} {f : Nat} (ihg : ∀ {c : Cx} {l : List Tk} {d : Nat} {w : World} {r : Rs (List Nd)}, PJ f 20 0 [] l d = some r → Rd w c l d → Calls Tryz.prog 124 #[.pointer (some ⟨c.g, 0, none⟩)] w fun e w' => KsP c w d r e w') (hk0 : ¬ (hdT l).k = 0) (hJ : PJ (f + 1) 17 0 [] l d = some r) (h : Rd w c l d) :
  Calls Tryz.prog 102 #[.pointer (some ⟨c.g, 0, none⟩)] w fun e w' => NdP c w d r e w' := by
 have S1 := hide (St.start h 29 #[.int .i64 0, .string ⟨#[]⟩, .int .i64 0, .int .i64 0, .string ⟨#[]⟩, .slice none 0 0, .slice none 0 0, .bool false, .slice none 0 0, .int .i64 0])
 obtain ⟨w1, hw1⟩ : ∃ w1, w.alloc (.cells #[.int .i64 0, .string ⟨#[]⟩, .int .i64 0, .int .i64 0, .string ⟨#[]⟩, .slice none 0 0, .slice none 0 0, .bool false, .slice none 0 0, .int .i64 0] 29) = w1 := ⟨_, rfl⟩
 rw [hw1] at S1
 obtain ⟨G, hG⟩ : ∃ G, w.heap.size = G := ⟨_, rfl⟩
 have hgw : c.g < w.heap.size := h.cells.2.2.2.2.2
 have HK0 := hide hk0
 clear h
 go_enter Tryz.func102, Tryz.ntmps102
 have HJ0 := hide (show jLoop (PJ f) l d = some r from hJ)
 clear hJ
 obtain ⟨⟨k, t, n, p⟩, ht⟩ : ∃ t, hdT l = t := ⟨_, rfl⟩
 have HT := hide ht
 clear ht
 have HJ1 := hide ((by have := unhide HJ0; unfold jLoop at this; rw [unhide HT] at this; exact this))
 clear HJ0
 have CC := hide ((by have := pass_any (unhide S1).rd (unhide HK0); rw [unhide HT] at this; simp only [tkA] at this; exact this))
 go_wp2_with fail
 refine (unhide CC).mono ?_
 rintro e w2 ⟨rfl, r2, b⟩
 have S2 := hide ((unhide S1).go b r2)
 clear b r2 CC S1
 go_upto_region 2 with (first | (refine wpl_tk3 rfl _ rfl _ _ _ _ rfl ?_) | (refine wpl_tk1 rfl _ rfl _ _ _ _ rfl ?_) | (refine wpl_tk0 rfl _ rfl _ _ _ _ rfl ?_))
 obtain ⟨w3, hw⟩ : ∃ zz, w2.alloc (.cells #[.int .i64 8, .string ⟨#[]⟩, .int .i64 0, .int .i64 0, .string ⟨#[]⟩, .slice none 0 0, .slice none 0 0, .bool false, .slice none 0 0, .int .i64 (p : Int)] 29) = zz := ⟨_, rfl⟩
 have b : Below w2.heap.size w2 w3 := by rw [← hw]; exact (Below.refl _ _).alloc (Nat.le_refl _) _
 obtain ⟨Q, hQ⟩ : ∃ zz, w2.heap.size = zz := ⟨_, rfl⟩
 have HBQ_3 : Hid (w3.heap[Q]? = some (.cells #[.int .i64 8, .string ⟨#[]⟩, .int .i64 0, .int .i64 0, .string ⟨#[]⟩, .slice none 0 0, .slice none 0 0, .bool false, .slice none 0 0, .int .i64 (p : Int)] 29 (0, 0))) := hide (by rw [← hw, ← hQ]; exact heap_alloc_new _ _)
 have S3 := hide ((unhide S2).below b)
 have ltQ : w.heap.size < Q := by rw [← hQ]; exact (unhide S2).lt
 rw [hw]
 try rw [hQ]
 clear hw hQ b S2
 obtain ⟨yx, hy, hth⟩ := bnd_some (unhide HJ1)
 have HJ2 := hide (hth)
 clear HJ1
 clear hth
 have CR := hide (ihg hy (unhide S3).rd)
 have HYX := hide hy
 clear hy
 rcases yx with ⟨ea, ep⟩ | ⟨nsx, lx⟩
 ·have HR := hide (thn_err (unhide HJ2))
  go_wp2_with fail
  refine (unhide CR).mono ?_
  rintro e wx ⟨rfl, b⟩
  have HX := hide ((unhide S3).bad b)
  clear b CR
  unfold fltP
  go_wp2_with fail
  exact ⟨rfl, by rw [unhide HR]; exact ⟨rfl, unhide HX⟩⟩
 ·have HJ3 := hide (thn_ok (unhide HJ2))
  clear HJ2
  go_wp2_with fail
  refine (unhide CR).mono ?_
  rintro e w4 ⟨ax, qx, Cx, Zx, rfl, hk, r2, b⟩
  have S4 := hide ((unhide S3).go b r2)
  have HBQ_4 := bx_go HBQ_3 b (by omega)
  obtain ⟨lox, hlo⟩ : ∃ zz, w3.heap.size = zz := ⟨_, rfl⟩
  have ltlox : w.heap.size < lox := by rw [← hlo]; exact (unhide S3).lt
  have lqQ_x : Q < lox := by rw [← hlo]; exact (Array.getElem?_eq_some_iff.1 (unhide HBQ_3)).1
  rw [hlo] at hk
  have HKx_4 := hide hk
  clear hlo b r2 hk CR S3 HBQ_3
  obtain ⟨na, hlnx⟩ : ∃ zz, nsx.length = zz := ⟨_, rfl⟩
  rw [hlnx] at HKx_4
  try rw [hlnx]
  obtain ⟨-, -, -, -, -, -, -, -, Qc8, -⟩ := row_cell10 (unhide HBQ_4)
  have Qf8 := frozen_of_row w4 Q 8 _ _ (unhide HBQ_4)
  go_upto_region 3 with fail
  clear Qc8 Qf8
  try rw [hlnx]
  obtain ⟨w5, hw⟩ : ∃ zz, w4.setCell ⟨Q, 8, none⟩ (.slice ax na qx) = zz := ⟨_, rfl⟩
  have HBQ_5 : Hid (w5.heap[Q]? = some (.cells #[.int .i64 8, .string ⟨#[]⟩, .int .i64 0, .int .i64 0, .string ⟨#[]⟩, .slice none 0 0, .slice none 0 0, .bool false, .slice ax na qx, .int .i64 (p : Int)] 29 (0, 0))) := hide (by rw [← hw, heap_setCell_same w4 Q 8 _ _ _ (unhide HBQ_4)]; rfl)
  have S5 : Hid (St w c 29 #[.int .i64 0, .string ⟨#[]⟩, .int .i64 0, .int .i64 0, .string ⟨#[]⟩, .slice none 0 0, .slice none 0 0, .bool false, .slice none 0 0, .int .i64 0] w5 lx d) := hide (by rw [← hw]; exact (unhide S4).own Q 8 _ ltQ)
  have HKx_5 := hide ((unhide HKx_4).but (q := Q) (w' := w5) (fun b _ hb => by rw [← hw]; exact heap_setCell_other _ _ _ _ hb) (by rw [← hw]; simp) (by omega))
  rw [hw]
  clear hw S4 HBQ_4 HKx_4
  have hr1 := okN_some (unhide HJ3)
  have hnn := (unhide HKx_5).node' hlnx 8 [] 0 0 [] false p
  have HR := hide (hr1)
  have BX := (unhide S5).bx
  rw [hG] at BX
  obtain ⟨g0, g1, g2, g3, g4, g5, g6, g7, g8, g9⟩ := row_cell10 BX
  obtain ⟨z0, z1, z2, z3, z4, z5, z6, z7, z8, z9⟩ := frozen10 BX
  clear BX
  obtain ⟨Qc0, Qc1, Qc2, Qc3, Qc4, Qc5, Qc6, Qc7, Qc8, Qc9⟩ := row_cell10 (unhide HBQ_5)
  have FF := hide (St.done (unhide S5) (hnn.low (by omega)) rfl hG)
  go_wp2_with fail
  refine bodyPost_ret (ret_c1 (p := 2) (T := 29) rfl _ _ G _ _ _ rfl (unhide FF).1 Tryz.underlying29 rfl size_nd) rfl ?_
  rw [unhide HR]
  exact (unhide FF).2
end Go.Proofs.YtgalfhlclmkbfaaGreatDoor

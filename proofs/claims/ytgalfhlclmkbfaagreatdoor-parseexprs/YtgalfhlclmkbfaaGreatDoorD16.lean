/-
  Layer 17 (parse): the document's reader: what stands lowest; conditions: the reader's state.
-/
import Derived.Test.YtgalfhlclmkbfaaGreatDoorD15
set_option linter.unusedVariables false
set_option linter.unusedSimpArgs false
namespace Go.Proofs.YtgalfhlclmkbfaaGreatDoor
open Go.RowKit
set_option linter.unusedVariables false
set_option linter.unusedSimpArgs false
set_option maxRecDepth 100000 in
set_option maxHeartbeats 2000000 in
theorem primq_step {c : Cx} {σ : Sg} {w : World} {r : List Nd × Sg} {f : Nat} (ihl : ∀ {c : Cx} {σ : Sg} {w : World} {r : List Nd × Sg}, RJ c.ts f 6 41 [] σ = some r → Rq w c σ → Calls Tryz.prog 131 #[.pointer (some ⟨c.g, 0, none⟩), .string ⟨#[41]⟩] w fun e w' => KqP c w r e w') (ihk : ∀ {c : Cx} {σ : Sg} {w : World} {r : List Nd × Sg}, RJ c.ts f 23 0 [] σ = some r → Rq w c σ → Calls Tryz.prog 132 #[.pointer (some ⟨c.g, 0, none⟩), .agg (tkA (tkQ c.ts σ))] w fun e w' => NqP c w r e w') (hJ : RJ c.ts (f + 1) 5 0 [] σ = some r) (h : Rq w c σ) :
  Calls Tryz.prog 112 #[.pointer (some ⟨c.g, 0, none⟩)] w fun e w' => NqP c w r e w' := by
 have S1 := hide (Sq.start (d := 0) h 29 #[.int .i64 0, .string ⟨#[]⟩, .int .i64 0, .int .i64 0, .string ⟨#[]⟩, .slice none 0 0, .slice none 0 0, .bool false, .slice none 0 0, .int .i64 0])
 obtain ⟨w1, hw1⟩ : ∃ w1, w.alloc (.cells #[.int .i64 0, .string ⟨#[]⟩, .int .i64 0, .int .i64 0, .string ⟨#[]⟩, .slice none 0 0, .slice none 0 0, .bool false, .slice none 0 0, .int .i64 0] 29) = w1 := ⟨_, rfl⟩
 rw [hw1] at S1
 obtain ⟨G, hG⟩ : ∃ G, w.heap.size = G := ⟨_, rfl⟩
 have hgw : c.g < w.heap.size := h.frz.2.2.2.2
 clear h
 go_enter Tryz.func112, Tryz.ntmps112
 have HJ0 := hide (show qPrim c.ts (RJ c.ts f) σ = some r from hJ)
 clear hJ
 obtain ⟨⟨k, t, n, p⟩, ht⟩ : ∃ zz, tkQ c.ts σ = zz := ⟨_, rfl⟩
 have HT := hide ht
 clear ht
 have HJ1 := hide ((by have := unhide HJ0; unfold qPrim at this; rw [unhide HT] at this; simp only [] at this; exact this))
 clear HJ0
 have CC := hide ((by have := peek_any (unhide S1).rd; rw [unhide HT] at this; simp only [tkA] at this; exact this))
 go_wp2_with fail
 refine (unhide CC).mono ?_
 rintro e w2 ⟨rfl, b⟩
 have S2 := hide ((unhide S1).below b)
 clear b CC S1
 go_upto_region 2 with fail
 obtain ⟨w3, hw⟩ : ∃ zz, w2.alloc (.cells #[.int .i64 (k : Int), .string (bA t), .int .i64 (n : Int), .int .i64 (p : Int)] 52) = zz := ⟨_, rfl⟩
 have b : Below w2.heap.size w2 w3 := by rw [← hw]; exact (Below.refl _ _).alloc (Nat.le_refl _) _
 obtain ⟨B, hQ⟩ : ∃ zz, w2.heap.size = zz := ⟨_, rfl⟩
 have HBB_3 : Hid (w3.heap[B]? = some (.cells #[.int .i64 (k : Int), .string (bA t), .int .i64 (n : Int), .int .i64 (p : Int)] 52 (0, 0))) := hide (by rw [← hw, ← hQ]; exact heap_alloc_new _ _)
 have S3 := hide ((unhide S2).below b)
 have ltB : w.heap.size < B := by rw [← hQ]; exact (unhide S2).lt
 rw [hw]
 try rw [hQ]
 clear hw hQ b S2
 by_cases he : σ.e = 0
 ·have HJ2 := hide ((by have := (unhide HJ1); rw [if_pos he] at this; exact this))
  clear HJ1
  have he0 : ((σ.e : Nat) : Int) = 0 := by omega
  have ec := (unhide S3).rd.cells.2.2.2.1
  rw [he0] at ec
  obtain ⟨Bc0, Bc1, Bc2, Bc3⟩ := row_cell4 (unhide HBB_3)
  by_cases hk : k = 3
  ·subst hk
   have HJ3 := hide ((by have := (unhide HJ2); (first | rw [if_pos rfl] at this | rw [if_pos trivial] at this); exact this))
   clear HJ2
   have HJ4 := hide ((by have := (unhide HJ3); unfold litQ at this; rw [unhide HT] at this; simp only [] at this; exact this))
   clear HJ3
   have CC := hide ((by have := next_any (unhide S3).rd; rw [unhide HT] at this; simp only [tkA] at this; exact this))
   go_wp2_with fail
   refine (unhide CC).mono ?_
   rintro e w4 ⟨rfl, r2, b⟩
   have S4 := hide ((unhide S3).go (d' := 0) b r2)
   have HBB_4 := bx_go HBB_3 b (by omega)
   clear b r2 CC S3 HBB_3
   clear Bc0 Bc1 Bc2 Bc3 ec
   obtain ⟨Bc0, Bc1, Bc2, Bc3⟩ := row_cell4 (unhide HBB_4)
   have CC := hide ((show Calls Tryz.prog 130 #[.agg #[.int .i64 2, .int .i64 (n : Int), .string ⟨#[]⟩, .slice none 0 0, .slice none 0 0], .int .i64 (p : Int)] w4 _ from litq_any 2 n [] p w4))
   go_wp2_with fail
   refine (unhide CC).mono ?_
   rintro e w5 ⟨rfl, b⟩
   have S5 := hide ((unhide S4).below b)
   have HBB_5 := bx_be HBB_4 b
   clear b CC S4 HBB_4
   have hr1 := okq_some (show okq [(⟨13, [], 2, n, [], false, [], p⟩ : Nd)] (nxQ c.ts σ) = some r from (unhide HJ4))
   have hnn := NdOk.leaf (lo := w.heap.size + 1) (w := w5) (unhide S5).lt 13 [] 2 n [] false p
   have HR := hide (hr1)
   have BX := (unhide S5).bx
   rw [hG] at BX
   obtain ⟨g0, g1, g2, g3, g4, g5, g6, g7, g8, g9⟩ := row_cell10 BX
   obtain ⟨z0, z1, z2, z3, z4, z5, z6, z7, z8, z9⟩ := frozen10 BX
   clear BX
   have FF := hide (Sq.done (unhide S5) (hnn) rfl hG)
   go_wp2_with fail
   refine bodyPost_ret (ret_c1 (p := 2) (T := 29) rfl _ _ G _ _ _ rfl (unhide FF).1 Tryz.underlying29 rfl size_nd) rfl ?_
   rw [unhide HR]
   exact (unhide FF).2
  ·have n3 : ¬ (k : Int) = 3 := by omega
   have m3 : ((k : Int) == 3) = false := beq_eq_false_iff_ne.2 n3
   have HJ3 := hide ((by have := (unhide HJ2); rw [if_neg hk] at this; exact this))
   clear HJ2
   by_cases hk4 : k = 4
   ·subst hk4
    have HJ4 := hide ((by have := (unhide HJ3); (first | rw [if_pos rfl] at this | rw [if_pos trivial] at this); exact this))
    clear HJ3
    have HJ5 := hide ((by have := (unhide HJ4); unfold litQ at this; rw [unhide HT] at this; simp only [] at this; exact this))
    clear HJ4
    have CC := hide ((by have := next_any (unhide S3).rd; rw [unhide HT] at this; simp only [tkA] at this; exact this))
    go_wp2_with fail
    refine (unhide CC).mono ?_
    rintro e w4 ⟨rfl, r2, b⟩
    have S4 := hide ((unhide S3).go (d' := 0) b r2)
    have HBB_4 := bx_go HBB_3 b (by omega)
    clear b r2 CC S3 HBB_3
    clear Bc0 Bc1 Bc2 Bc3 ec
    obtain ⟨Bc0, Bc1, Bc2, Bc3⟩ := row_cell4 (unhide HBB_4)
    have CC := hide ((show Calls Tryz.prog 130 #[.agg #[.int .i64 3, .int .i64 0, .string (bA t), .slice none 0 0, .slice none 0 0], .int .i64 (p : Int)] w4 _ from litq_any 3 0 t p w4))
    go_wp2_with fail
    refine (unhide CC).mono ?_
    rintro e w5 ⟨rfl, b⟩
    have S5 := hide ((unhide S4).below b)
    have HBB_5 := bx_be HBB_4 b
    clear b CC S4 HBB_4
    have hr1 := okq_some (show okq [(⟨13, [], 3, 0, t, false, [], p⟩ : Nd)] (nxQ c.ts σ) = some r from (unhide HJ5))
    have hnn := NdOk.leaf (lo := w.heap.size + 1) (w := w5) (unhide S5).lt 13 [] 3 0 t false p
    have HR := hide (hr1)
    have BX := (unhide S5).bx
    rw [hG] at BX
    obtain ⟨g0, g1, g2, g3, g4, g5, g6, g7, g8, g9⟩ := row_cell10 BX
    obtain ⟨z0, z1, z2, z3, z4, z5, z6, z7, z8, z9⟩ := frozen10 BX
    clear BX
    have FF := hide (Sq.done (unhide S5) (hnn) rfl hG)
    go_wp2_with fail
    refine bodyPost_ret (ret_c1 (p := 2) (T := 29) rfl _ _ G _ _ _ rfl (unhide FF).1 Tryz.underlying29 rfl size_nd) rfl ?_
    rw [unhide HR]
    exact (unhide FF).2
   ·have n4 : ¬ (k : Int) = 4 := by omega
    have m4 : ((k : Int) == 4) = false := beq_eq_false_iff_ne.2 n4
    have HJ4 := hide ((by have := (unhide HJ3); rw [if_neg hk4] at this; exact this))
    clear HJ3
    by_cases hk2 : k = 2
    ·subst hk2
     by_cases hT : t = [116, 114, 117, 101]
     ·subst hT
      have fT : ((bA [116, 114, 117, 101]).toList == [116, 114, 117, 101]) = true := by kernel_rfl
      have fF : ((bA [116, 114, 117, 101]).toList == [102, 97, 108, 115, 101]) = false := by kernel_rfl
      have fU : ((bA [116, 114, 117, 101]).toList == [117, 110, 105, 116]) = false := by kernel_rfl
      have HJ5 := hide ((by have := (unhide HJ4); (first | rw [if_pos ⟨rfl, rfl⟩] at this | rw [if_pos (by decide)] at this); exact this))
      clear HJ4
      have HJ6 := hide ((by have := (unhide HJ5); unfold litQ at this; rw [unhide HT] at this; simp only [] at this; exact this))
      clear HJ5
      have CC := hide ((by have := next_any (unhide S3).rd; rw [unhide HT] at this; simp only [tkA] at this; exact this))
      go_wp2_with fail
      refine (unhide CC).mono ?_
      rintro e w4 ⟨rfl, r2, b⟩
      have S4 := hide ((unhide S3).go (d' := 0) b r2)
      have HBB_4 := bx_go HBB_3 b (by omega)
      clear b r2 CC S3 HBB_3
      clear Bc0 Bc1 Bc2 Bc3 ec
      go_upto_region 13 with fail
      obtain ⟨w5, hw⟩ : ∃ zz, w4.alloc (.cells #[.int .i64 1, .int .i64 0, .string ⟨#[]⟩, .slice none 0 0, .slice none 0 0] 26) = zz := ⟨_, rfl⟩
      have b : Below w4.heap.size w4 w5 := by rw [← hw]; exact (Below.refl _ _).alloc (Nat.le_refl _) _
      obtain ⟨V, hQ⟩ : ∃ zz, w4.heap.size = zz := ⟨_, rfl⟩
      have HBV_5 : Hid (w5.heap[V]? = some (.cells #[.int .i64 1, .int .i64 0, .string ⟨#[]⟩, .slice none 0 0, .slice none 0 0] 26 (0, 0))) := hide (by rw [← hw, ← hQ]; exact heap_alloc_new _ _)
      have S5 := hide ((unhide S4).below b)
      have HBB_5 := bx_be HBB_4 b
      have lB_V : B < V := by rw [← hQ]; exact (Array.getElem?_eq_some_iff.1 (unhide HBB_4)).1
      have ltV : w.heap.size < V := by rw [← hQ]; exact (unhide S4).lt
      rw [hw]
      try rw [hQ]
      clear hw hQ b S4 HBB_4
      obtain ⟨Vc0, Vc1, Vc2, Vc3, Vc4⟩ := row_cell5q (unhide HBV_5)
      obtain ⟨Bc0, Bc1, Bc2, Bc3⟩ := row_cell4 (unhide HBB_5)
      have Vf1 := frozen_of_row w5 V 1 _ _ (unhide HBV_5)
      go_upto_region 15 with fail
      clear Vc0 Vc1 Vc2 Vc3 Vc4 Vf1 Bc0 Bc1 Bc2 Bc3
      obtain ⟨w6, hw⟩ : ∃ zz, w5.setCell ⟨V, 1, none⟩ (.int .i64 1) = zz := ⟨_, rfl⟩
      have HBV_6 : Hid (w6.heap[V]? = some (.cells #[.int .i64 1, .int .i64 1, .string ⟨#[]⟩, .slice none 0 0, .slice none 0 0] 26 (0, 0))) := hide (by rw [← hw, heap_setCell_same w5 V 1 _ _ _ (unhide HBV_5)]; rfl)
      have S6 : Hid (Sq w c 29 #[.int .i64 0, .string ⟨#[]⟩, .int .i64 0, .int .i64 0, .string ⟨#[]⟩, .slice none 0 0, .slice none 0 0, .bool false, .slice none 0 0, .int .i64 0] w6 (nxQ c.ts σ) 0) := hide (by rw [← hw]; exact (unhide S5).own V 1 _ ltV)
      have HBB_6 := (bx_ne (q := V) (f := 1) (v := .int .i64 1) HBB_5 (by omega))
      rw [hw] at HBB_6
      rw [hw]
      clear hw S5 HBB_5 HBV_5
      obtain ⟨Vc0, Vc1, Vc2, Vc3, Vc4⟩ := row_cell5q (unhide HBV_6)
      obtain ⟨Bc0, Bc1, Bc2, Bc3⟩ := row_cell4 (unhide HBB_6)
      have CC := hide ((show Calls Tryz.prog 130 #[.agg #[.int .i64 1, .int .i64 1, .string ⟨#[]⟩, .slice none 0 0, .slice none 0 0], .int .i64 (p : Int)] w6 _ from litq_any 1 1 [] p w6))
      go_wp2_with fail
      refine (unhide CC).mono ?_
      rintro e w7 ⟨rfl, b⟩
      have S7 := hide ((unhide S6).below b)
      have HBB_7 := bx_be HBB_6 b
      have HBV_7 := bx_be HBV_6 b
      clear b CC S6 HBB_6 HBV_6
      have hr1 := okq_some (show okq [(⟨13, [], 1, 1, [], false, [], p⟩ : Nd)] (nxQ c.ts σ) = some r from (unhide HJ6))
      have hnn := NdOk.leaf (lo := w.heap.size + 1) (w := w7) (unhide S7).lt 13 [] 1 1 [] false p
      have HR := hide (hr1)
      have BX := (unhide S7).bx
      rw [hG] at BX
      obtain ⟨g0, g1, g2, g3, g4, g5, g6, g7, g8, g9⟩ := row_cell10 BX
      obtain ⟨z0, z1, z2, z3, z4, z5, z6, z7, z8, z9⟩ := frozen10 BX
      clear BX
      have FF := hide (Sq.done (unhide S7) (hnn) rfl hG)
      go_wp2_with fail
      refine bodyPost_ret (ret_c1 (p := 2) (T := 29) rfl _ _ G _ _ _ rfl (unhide FF).1 Tryz.underlying29 rfl size_nd) rfl ?_
      rw [unhide HR]
      exact (unhide FF).2
     ·by_cases hF : t = [102, 97, 108, 115, 101]
      ·subst hF
       have fT : ((bA [102, 97, 108, 115, 101]).toList == [116, 114, 117, 101]) = false := by kernel_rfl
       have fF : ((bA [102, 97, 108, 115, 101]).toList == [102, 97, 108, 115, 101]) = true := by kernel_rfl
       have fU : ((bA [102, 97, 108, 115, 101]).toList == [117, 110, 105, 116]) = false := by kernel_rfl
       have HJ5 := hide ((by have := (unhide HJ4); rw [if_neg (by decide)] at this; rw [if_pos (by decide)] at this; exact this))
       clear HJ4
       have HJ6 := hide ((by have := (unhide HJ5); unfold litQ at this; rw [unhide HT] at this; simp only [] at this; exact this))
       clear HJ5
       have CC := hide ((by have := next_any (unhide S3).rd; rw [unhide HT] at this; simp only [tkA] at this; exact this))
       go_wp2_with fail
       refine (unhide CC).mono ?_
       rintro e w4 ⟨rfl, r2, b⟩
       have S4 := hide ((unhide S3).go (d' := 0) b r2)
       have HBB_4 := bx_go HBB_3 b (by omega)
       clear b r2 CC S3 HBB_3
       clear Bc0 Bc1 Bc2 Bc3 ec
       go_upto_region 13 with fail
       obtain ⟨w5, hw⟩ : ∃ zz, w4.alloc (.cells #[.int .i64 1, .int .i64 0, .string ⟨#[]⟩, .slice none 0 0, .slice none 0 0] 26) = zz := ⟨_, rfl⟩
       have b : Below w4.heap.size w4 w5 := by rw [← hw]; exact (Below.refl _ _).alloc (Nat.le_refl _) _
       obtain ⟨V, hQ⟩ : ∃ zz, w4.heap.size = zz := ⟨_, rfl⟩
       have HBV_5 : Hid (w5.heap[V]? = some (.cells #[.int .i64 1, .int .i64 0, .string ⟨#[]⟩, .slice none 0 0, .slice none 0 0] 26 (0, 0))) := hide (by rw [← hw, ← hQ]; exact heap_alloc_new _ _)
       have S5 := hide ((unhide S4).below b)
       have HBB_5 := bx_be HBB_4 b
       have lB_V : B < V := by rw [← hQ]; exact (Array.getElem?_eq_some_iff.1 (unhide HBB_4)).1
       have ltV : w.heap.size < V := by rw [← hQ]; exact (unhide S4).lt
       rw [hw]
       try rw [hQ]
       clear hw hQ b S4 HBB_4
       obtain ⟨Vc0, Vc1, Vc2, Vc3, Vc4⟩ := row_cell5q (unhide HBV_5)
       obtain ⟨Bc0, Bc1, Bc2, Bc3⟩ := row_cell4 (unhide HBB_5)
       have CC := hide ((show Calls Tryz.prog 130 #[.agg #[.int .i64 1, .int .i64 0, .string ⟨#[]⟩, .slice none 0 0, .slice none 0 0], .int .i64 (p : Int)] w5 _ from litq_any 1 0 [] p w5))
       go_wp2_with fail
       refine (unhide CC).mono ?_
       rintro e w6 ⟨rfl, b⟩
       have S6 := hide ((unhide S5).below b)
       have HBB_6 := bx_be HBB_5 b
       have HBV_6 := bx_be HBV_5 b
       clear b CC S5 HBB_5 HBV_5
       have hr1 := okq_some (show okq [(⟨13, [], 1, 0, [], false, [], p⟩ : Nd)] (nxQ c.ts σ) = some r from (unhide HJ6))
       have hnn := NdOk.leaf (lo := w.heap.size + 1) (w := w6) (unhide S6).lt 13 [] 1 0 [] false p
       have HR := hide (hr1)
       have BX := (unhide S6).bx
       rw [hG] at BX
       obtain ⟨g0, g1, g2, g3, g4, g5, g6, g7, g8, g9⟩ := row_cell10 BX
       obtain ⟨z0, z1, z2, z3, z4, z5, z6, z7, z8, z9⟩ := frozen10 BX
       clear BX
       have FF := hide (Sq.done (unhide S6) (hnn) rfl hG)
       go_wp2_with fail
       refine bodyPost_ret (ret_c1 (p := 2) (T := 29) rfl _ _ G _ _ _ rfl (unhide FF).1 Tryz.underlying29 rfl size_nd) rfl ?_
       rw [unhide HR]
       exact (unhide FF).2
      ·by_cases hU : t = [117, 110, 105, 116]
       ·subst hU
        have fT : ((bA [117, 110, 105, 116]).toList == [116, 114, 117, 101]) = false := by kernel_rfl
        have fF : ((bA [117, 110, 105, 116]).toList == [102, 97, 108, 115, 101]) = false := by kernel_rfl
        have fU : ((bA [117, 110, 105, 116]).toList == [117, 110, 105, 116]) = true := by kernel_rfl
        have HJ5 := hide ((by have := (unhide HJ4); rw [if_neg (by decide)] at this; rw [if_neg (by decide)] at this; rw [if_pos (by decide)] at this; exact this))
        clear HJ4
        have HJ6 := hide ((by have := (unhide HJ5); unfold litQ at this; rw [unhide HT] at this; simp only [] at this; exact this))
        clear HJ5
        have CC := hide ((by have := next_any (unhide S3).rd; rw [unhide HT] at this; simp only [tkA] at this; exact this))
        go_wp2_with fail
        refine (unhide CC).mono ?_
        rintro e w4 ⟨rfl, r2, b⟩
        have S4 := hide ((unhide S3).go (d' := 0) b r2)
        have HBB_4 := bx_go HBB_3 b (by omega)
        clear b r2 CC S3 HBB_3
        clear Bc0 Bc1 Bc2 Bc3 ec
        obtain ⟨Bc0, Bc1, Bc2, Bc3⟩ := row_cell4 (unhide HBB_4)
        have CC := hide ((show Calls Tryz.prog 130 #[.agg #[.int .i64 0, .int .i64 0, .string ⟨#[]⟩, .slice none 0 0, .slice none 0 0], .int .i64 (p : Int)] w4 _ from litq_any 0 0 [] p w4))
        go_wp2_with fail
        refine (unhide CC).mono ?_
        rintro e w5 ⟨rfl, b⟩
        have S5 := hide ((unhide S4).below b)
        have HBB_5 := bx_be HBB_4 b
        clear b CC S4 HBB_4
        have hr1 := okq_some (show okq [(⟨13, [], 0, 0, [], false, [], p⟩ : Nd)] (nxQ c.ts σ) = some r from (unhide HJ6))
        have hnn := NdOk.leaf (lo := w.heap.size + 1) (w := w5) (unhide S5).lt 13 [] 0 0 [] false p
        have HR := hide (hr1)
        have BX := (unhide S5).bx
        rw [hG] at BX
        obtain ⟨g0, g1, g2, g3, g4, g5, g6, g7, g8, g9⟩ := row_cell10 BX
        obtain ⟨z0, z1, z2, z3, z4, z5, z6, z7, z8, z9⟩ := frozen10 BX
        clear BX
        have FF := hide (Sq.done (unhide S5) (hnn) rfl hG)
        go_wp2_with fail
        refine bodyPost_ret (ret_c1 (p := 2) (T := 29) rfl _ _ G _ _ _ rfl (unhide FF).1 Tryz.underlying29 rfl size_nd) rfl ?_
        rw [unhide HR]
        exact (unhide FF).2
       ·have fT : ((bA t).toList == [116, 114, 117, 101]) = false := beq_eq_false_iff_ne.2 (fun e => hT (by rw [bA_list] at e; exact e))
        have fF : ((bA t).toList == [102, 97, 108, 115, 101]) = false := beq_eq_false_iff_ne.2 (fun e => hF (by rw [bA_list] at e; exact e))
        have fU : ((bA t).toList == [117, 110, 105, 116]) = false := beq_eq_false_iff_ne.2 (fun e => hU (by rw [bA_list] at e; exact e))
        have HJ5 := hide ((by have := (unhide HJ4); rw [if_neg (fun e => hT e.2), if_neg (fun e => hF e.2), if_neg (fun e => hU e.2), if_neg (by decide)] at this; exact this))
        clear HJ4
        obtain ⟨⟨nsx, sx⟩, hrx⟩ : ∃ zz, r = zz := ⟨_, rfl⟩
        have CR := hide (by have := ihk (unhide HJ5) (unhide S3).rd; rw [unhide HT] at this; simp only [tkA] at this; exact this)
        have HR1 := hide hrx
        rw [hrx] at CR
        clear hrx
        go_wp2_with fail
        refine (unhide CR).mono ?_
        rintro e wz ⟨kx, tx, vkx, vnx, vsx, fx, nx, akx, ckx, px, Zx, rfl, hlx, hn, r2, b⟩
        simp only [] at hlx hn r2
        have S90 := hide ((unhide S3).go (d' := 0) b r2)
        have HNx_90 := hide (hn.low (lo' := w.heap.size + 1) (unhide S3).lt)
        clear b r2 hn CR S3 Bc0 Bc1 Bc2 Bc3 ec
        have HR := hide (unhide HR1)
        have BX := (unhide S90).bx
        rw [hG] at BX
        obtain ⟨g0, g1, g2, g3, g4, g5, g6, g7, g8, g9⟩ := row_cell10 BX
        obtain ⟨z0, z1, z2, z3, z4, z5, z6, z7, z8, z9⟩ := frozen10 BX
        clear BX
        have FF := hide (Sq.done (unhide S90) (unhide HNx_90) hlx hG)
        go_wp2_with fail
        refine bodyPost_ret (ret_c1 (p := 2) (T := 29) rfl _ _ G _ _ _ rfl (unhide FF).1 Tryz.underlying29 rfl size_nd) rfl ?_
        rw [unhide HR]
        exact (unhide FF).2
    ·have n2 : ¬ (k : Int) = 2 := by omega
     have m2 : ((k : Int) == 2) = false := beq_eq_false_iff_ne.2 n2
     have HJ5 := hide ((by have := (unhide HJ4); rw [if_neg (fun e => hk2 e.1), if_neg (fun e => hk2 e.1), if_neg (fun e => hk2 e.1)] at this; exact this))
     clear HJ4
     by_cases hk1 : k = 1
     ·subst hk1
      have HJ6 := hide ((by have := (unhide HJ5); (first | rw [if_pos rfl] at this | rw [if_pos trivial] at this); exact this))
      clear HJ5
      have CC := hide ((by have := next_any (unhide S3).rd; rw [unhide HT] at this; simp only [tkA] at this; exact this))
      go_wp2_with fail
      refine (unhide CC).mono ?_
      rintro e w4 ⟨rfl, r2, b⟩
      have S4 := hide ((unhide S3).go (d' := 0) b r2)
      have HBB_4 := bx_go HBB_3 b (by omega)
      clear b r2 CC S3 HBB_3
      clear Bc0 Bc1 Bc2 Bc3 ec
      rcases Bool.eq_false_or_eq_true (isQ c.ts 5 [40] (nxQ c.ts σ)) with hq | hq
      ·have HJ7 := hide ((by have := (unhide HJ6); rw [if_pos hq] at this; exact this))
       clear HJ6
       have CC := hide ((by have := signq_any (unhide S4).rd [40]; rw [hq] at this; exact this))
       go_wp2_with fail
       refine (unhide CC).mono ?_
       rintro e w5 ⟨rfl, b⟩
       have S5 := hide ((unhide S4).below b)
       have HBB_5 := bx_be HBB_4 b
       clear b CC S4 HBB_4
       obtain ⟨⟨kz, tz, nz, pz⟩, ht⟩ : ∃ zz, (opQ c.ts (nxQ c.ts σ)).1 = zz := ⟨_, rfl⟩
       have HTz := hide ht
       clear ht
       have CC := hide ((by have := opens_any (unhide S5).rd; rw [unhide HTz] at this; simp only [tkA] at this; exact this))
       go_wp2_with fail
       refine (unhide CC).mono ?_
       rintro e w6 ⟨rfl, r2, b⟩
       have S6 := hide ((unhide S5).go (d' := 0) b r2)
       have HBB_6 := bx_go HBB_5 b (by omega)
       clear b r2 CC S5 HBB_5
       obtain ⟨nsx, sx, hy, hth⟩ := bq_some (unhide HJ7)
       have HJ8 := hide (hth)
       clear HJ7
       clear hth
       have CR := hide (ihl hy (unhide S6).rd)
       clear hy
       go_wp2_with fail
       refine (unhide CR).mono ?_
       rintro e w7 ⟨ax, qx, Cx, Zx, rfl, hk, r2, b⟩
       simp only [] at hk r2
       have S7 := hide ((unhide S6).go (d' := 0) b r2)
       have HBB_7 := bx_go HBB_6 b (by omega)
       obtain ⟨lox, hlo⟩ : ∃ zz, w6.heap.size = zz := ⟨_, rfl⟩
       have ltlox : w.heap.size < lox := by rw [← hlo]; exact (unhide S6).lt
       have lqB_x : B < lox := by rw [← hlo]; exact (Array.getElem?_eq_some_iff.1 (unhide HBB_6)).1
       rw [hlo] at hk
       have HKx_7 := hide hk
       clear hlo b r2 hk CR S6 HBB_6
       obtain ⟨nx, hnx⟩ : ∃ zz, nsx.length = zz := ⟨_, rfl⟩
       rw [hnx] at HKx_7
       try rw [hnx]
       obtain ⟨Bc0, Bc1, Bc2, Bc3⟩ := row_cell4 (unhide HBB_7)
       have hr1 := okq_some (unhide HJ8)
       have hnn := (unhide HKx_7).node' hnx 15 t 0 0 [] false p
       have HR := hide (hr1)
       have BX := (unhide S7).bx
       rw [hG] at BX
       obtain ⟨g0, g1, g2, g3, g4, g5, g6, g7, g8, g9⟩ := row_cell10 BX
       obtain ⟨z0, z1, z2, z3, z4, z5, z6, z7, z8, z9⟩ := frozen10 BX
       clear BX
       have FF := hide (Sq.done (unhide S7) (hnn.low (lo' := w.heap.size + 1) (by omega)) rfl hG)
       go_wp2_with fail
       refine bodyPost_ret (ret_c1 (p := 2) (T := 29) rfl _ _ G _ _ _ rfl (unhide FF).1 Tryz.underlying29 rfl size_nd) rfl ?_
       rw [unhide HR]
       exact (unhide FF).2
      ·have HJ7 := hide ((by have := (unhide HJ6); rw [if_neg (by rw [hq]; simp)] at this; exact this))
       clear HJ6
       have CC := hide ((by have := signq_any (unhide S4).rd [40]; rw [hq] at this; exact this))
       go_wp2_with fail
       refine (unhide CC).mono ?_
       rintro e w5 ⟨rfl, b⟩
       have S5 := hide ((unhide S4).below b)
       have HBB_5 := bx_be HBB_4 b
       clear b CC S4 HBB_4
       obtain ⟨Bc0, Bc1, Bc2, Bc3⟩ := row_cell4 (unhide HBB_5)
       have hr1 := okq_some (unhide HJ7)
       have hnn := NdOk.leaf (lo := w.heap.size + 1) (w := w5) (unhide S5).lt 14 t 0 0 [] false p
       have HR := hide (hr1)
       have BX := (unhide S5).bx
       rw [hG] at BX
       obtain ⟨g0, g1, g2, g3, g4, g5, g6, g7, g8, g9⟩ := row_cell10 BX
       obtain ⟨z0, z1, z2, z3, z4, z5, z6, z7, z8, z9⟩ := frozen10 BX
       clear BX
       have FF := hide (Sq.done (unhide S5) (hnn) rfl hG)
       go_wp2_with fail
       refine bodyPost_ret (ret_c1 (p := 2) (T := 29) rfl _ _ G _ _ _ rfl (unhide FF).1 Tryz.underlying29 rfl size_nd) rfl ?_
       rw [unhide HR]
       exact (unhide FF).2
     ·have n1 : ¬ (k : Int) = 1 := by omega
      have m1 : ((k : Int) == 1) = false := beq_eq_false_iff_ne.2 n1
      have HJ6 := hide ((by have := (unhide HJ5); rw [if_neg hk1] at this; exact this))
      clear HJ5
      obtain ⟨⟨nsx, sx⟩, hrx⟩ : ∃ zz, r = zz := ⟨_, rfl⟩
      have CR := hide (by have := ihk (unhide HJ6) (unhide S3).rd; rw [unhide HT] at this; simp only [tkA] at this; exact this)
      have HR1 := hide hrx
      rw [hrx] at CR
      clear hrx
      go_wp2_with fail
      refine (unhide CR).mono ?_
      rintro e wz ⟨kx, tx, vkx, vnx, vsx, fx, nx, akx, ckx, px, Zx, rfl, hlx, hn, r2, b⟩
      simp only [] at hlx hn r2
      have S90 := hide ((unhide S3).go (d' := 0) b r2)
      have HNx_90 := hide (hn.low (lo' := w.heap.size + 1) (unhide S3).lt)
      clear b r2 hn CR S3 Bc0 Bc1 Bc2 Bc3 ec
      have HR := hide (unhide HR1)
      have BX := (unhide S90).bx
      rw [hG] at BX
      obtain ⟨g0, g1, g2, g3, g4, g5, g6, g7, g8, g9⟩ := row_cell10 BX
      obtain ⟨z0, z1, z2, z3, z4, z5, z6, z7, z8, z9⟩ := frozen10 BX
      clear BX
      have FF := hide (Sq.done (unhide S90) (unhide HNx_90) hlx hG)
      go_wp2_with fail
      refine bodyPost_ret (ret_c1 (p := 2) (T := 29) rfl _ _ G _ _ _ rfl (unhide FF).1 Tryz.underlying29 rfl size_nd) rfl ?_
      rw [unhide HR]
      exact (unhide FF).2
 ·have HJ2 := hide ((by have := (unhide HJ1); rw [if_neg he] at this; exact this))
  clear HJ1
  have he0 : ¬ ((σ.e : Nat) : Int) = 0 := by omega
  have he1 : (((σ.e : Nat) : Int) == 0) = false := beq_eq_false_iff_ne.2 he0
  have he2 : (((σ.e : Nat) : Int) != 0) = true := by simp; omega
  have ec := (unhide S3).rd.cells.2.2.2.1
  have hr1 := okq_some (unhide HJ2)
  have hnn := NdOk.leaf (lo := w.heap.size + 1) (w := w3) (unhide S3).lt 0 [] 0 0 [] false 0
  have HR := hide (hr1)
  have BX := (unhide S3).bx
  rw [hG] at BX
  obtain ⟨g0, g1, g2, g3, g4, g5, g6, g7, g8, g9⟩ := row_cell10 BX
  obtain ⟨z0, z1, z2, z3, z4, z5, z6, z7, z8, z9⟩ := frozen10 BX
  clear BX
  have FF := hide (Sq.done (unhide S3) (hnn) rfl hG)
  go_wp2_with fail
  refine bodyPost_ret (ret_c1 (p := 2) (T := 29) rfl _ _ G _ _ _ rfl (unhide FF).1 Tryz.underlying29 rfl size_nd) rfl ?_
  rw [unhide HR]
  exact (unhide FF).2
end Go.Proofs.YtgalfhlclmkbfaaGreatDoor

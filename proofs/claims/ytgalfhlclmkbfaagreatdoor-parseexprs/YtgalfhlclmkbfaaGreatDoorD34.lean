/-
  Layer 17 (parse): blocks; conditions: the reader's state.
-/
import Derived.Test.YtgalfhlclmkbfaaGreatDoorD11
import Derived.Deep.LoopGhost
set_option linter.unusedVariables false
set_option linter.unusedSimpArgs false
namespace Go.Proofs.YtgalfhlclmkbfaaGreatDoor
open Go.RowKit
set_option linter.unusedVariables false
set_option linter.unusedSimpArgs false
set_option maxRecDepth 100000 in
set_option maxHeartbeats 8000000 in
theorem block_step {c : Cx} {l : List Tk} {d : Nat} {w : World} {r : Rs (List Nd)} {f : Nat} (ihs : ∀ {f1 : Nat}, f1 ≤ f → ∀ {c : Cx} {l : List Tk} {d : Nat} {w : World} {r : Rs (List Nd)}, PJ f1 9 0 [] l d = some r → Rd w c l d → Calls Tryz.prog 84 #[.pointer (some ⟨c.g, 0, none⟩)] w fun e w' => NdP c w d r e w') (hJ : PJ (f + 1) 10 0 [] l d = some r) (h : Rd w c l d) :
  Calls Tryz.prog 54 #[.pointer (some ⟨c.g, 0, none⟩)] w fun e w' => NdP c w d r e w' := by
 have S1 := hide (St.start h 29 #[.int .i64 0, .string ⟨#[]⟩, .int .i64 0, .int .i64 0, .string ⟨#[]⟩, .slice none 0 0, .slice none 0 0, .bool false, .slice none 0 0, .int .i64 0])
 obtain ⟨w1, hw1⟩ : ∃ w1, w.alloc (.cells #[.int .i64 0, .string ⟨#[]⟩, .int .i64 0, .int .i64 0, .string ⟨#[]⟩, .slice none 0 0, .slice none 0 0, .bool false, .slice none 0 0, .int .i64 0] 29) = w1 := ⟨_, rfl⟩
 rw [hw1] at S1
 obtain ⟨G, hG⟩ : ∃ G, w.heap.size = G := ⟨_, rfl⟩
 have hgw : c.g < w.heap.size := h.cells.2.2.2.2.2
 clear h
 go_enter Tryz.func54, Tryz.ntmps54
 have HJ0 := hide (show jBlock (PJ f) l d = some r from hJ)
 clear hJ
 have HJ1 := hide ((by have := unhide HJ0; unfold jBlock at this; exact this))
 clear HJ0
 by_cases hb : isS [123] l = true
 ·have hq : isS [123] l = true := by simpa using hb
  have hlw := (unhide S1).rd.low
  by_cases hd : d < 24
  ·have HJ2 := hide (thn_en hq hd (unhide HJ1))
   clear HJ1
   have CC := hide (ent_ok (unhide S1).rd [123] hq hd)
   go_wp2_with fail
   refine (unhide CC).mono ?_
   rintro e w2 ⟨rfl, r2, b⟩
   have S2 := hide ((unhide S1).go b r2)
   clear b r2 CC S1
   go_upto_region 2 with (first | (refine wpl_tk3 rfl _ rfl _ _ _ _ rfl ?_) | (refine wpl_tk1 rfl _ rfl _ _ _ _ rfl ?_) | (refine wpl_tk0 rfl _ rfl _ _ _ _ rfl ?_))
   obtain ⟨w3, hw⟩ : ∃ zz, w2.alloc (.cells #[.int .i64 4, .string ⟨#[]⟩, .int .i64 0, .int .i64 0, .string ⟨#[]⟩, .slice none 0 0, .slice none 0 0, .bool false, .slice none 0 0, .int .i64 ((hdT l).p : Int)] 29) = zz := ⟨_, rfl⟩
   have b : Below w2.heap.size w2 w3 := by rw [← hw]; exact (Below.refl _ _).alloc (Nat.le_refl _) _
   obtain ⟨Q, hQ⟩ : ∃ zz, w2.heap.size = zz := ⟨_, rfl⟩
   have HBQ_3 : Hid (w3.heap[Q]? = some (.cells #[.int .i64 4, .string ⟨#[]⟩, .int .i64 0, .int .i64 0, .string ⟨#[]⟩, .slice none 0 0, .slice none 0 0, .bool false, .slice none 0 0, .int .i64 ((hdT l).p : Int)] 29 (0, 0))) := hide (by rw [← hw, ← hQ]; exact heap_alloc_new _ _)
   have S3 := hide ((unhide S2).below b)
   have ltQ : w.heap.size < Q := by rw [← hQ]; exact (unhide S2).lt
   rw [hw]
   try rw [hQ]
   clear hw hQ b S2
   obtain ⟨Y, hY, hth⟩ := bnd_some (unhide HJ2)
   have HJ3 := hide (hth)
   clear HJ2
   clear hth
   have HKa_3 : Hid (Kr (Q + 1) w3 [] (.slice none 0 0) [] []) := hide (Kr.nil (Array.getElem?_eq_some_iff.1 (unhide HBQ_3)).1)
   have HY := hide hY
   clear hY
   have hlt := ((unhide S3).rd).head
   have hln := ((unhide S3).rd).len
   have hnl : l.tail.length ≤ 10000 := by have := hlt.2.2; omega
   clear hlt hln
   go_wp2_with fail
   go_loopg [] f (fun gk wr => ∃ (acc : List Nd) (la : List Tk) (na : Nat) (ak : Option Addr) (ck : Nat) (C : List Value) (Sa : List Nat), Hid (gk ≤ f ∧ PJ gk 11 0 acc la (d + 1) = some Y ∧ acc.length = na ∧ na + la.length ≤ 10000) ∧ Hid (St w c 29 #[.int .i64 0, .string ⟨#[]⟩, .int .i64 0, .int .i64 0, .string ⟨#[]⟩, .slice none 0 0, .slice none 0 0, .bool false, .slice none 0 0, .int .i64 0] wr la (d + 1) ∧ wr.heap[Q]? = some (.cells #[.int .i64 4, .string ⟨#[]⟩, .int .i64 0, .int .i64 0, .string ⟨#[]⟩, .slice none 0 0, .slice none 0 0, .bool false, .slice ak na ck, .int .i64 ((hdT l).p : Int)] 29 (0, 0)) ∧ Kr (Q + 1) wr acc (.slice ak na ck) C Sa))
   case atStart => exact ⟨[], l.tail, 0, none, 0, [], [], hide ⟨Nat.le_refl _, unhide HY, rfl, by omega⟩, hide ⟨unhide S3, unhide HBQ_3, unhide HKa_3⟩⟩
   case round =>
    clear HY HKa_3 S3 HBQ_3
    obtain ⟨acc, la, na, ak, ck, Ca, Sa, HA, HI⟩ := hrel
    obtain ⟨w50, hw50⟩ : ∃ zz, zz = wr := ⟨_, rfl⟩
    subst hw50
    have S50 := hide (unhide HI).1
    have HBQ_50 := hide (unhide HI).2.1
    have HKa_50 := hide (unhide HI).2.2
    obtain ⟨g1, hg1⟩ := PJ_fuel (unhide HA).2.1
    subst hg1
    have HJ60 := hide (show jBlL (PJ g1) acc la (d + 1) = some Y from (unhide HA).2.1)
    have hlna := (unhide HA).2.2.1
    have hbna := (unhide HA).2.2.2
    have hgf := (unhide HA).1
    clear HI HA
    have HJ61 := hide ((by have := unhide HJ60; unfold jBlL at this; exact this))
    clear HJ60
    by_cases hb : isS [125] la = true
    ·have hq : isS [125] la = true := by simpa using hb
     have CC := hide ((by have := seesSign_any (unhide S50).rd [125]; rw [hq] at this; exact this))
     go_wp2_with fail
     refine (unhide CC).mono ?_
     rintro e w51 ⟨rfl, b⟩
     have S51 := hide ((unhide S50).below b)
     have HBQ_51 := bx_be HBQ_50 b
     have HKa_51 := hide ((unhide HKa_50).beside (Beside.of_below (gr := c.g) b) (by omega))
     clear b CC S50 HBQ_50 HKa_50
     have HJ62 := hide ((by have := (unhide HJ61); rw [if_pos hq] at this; exact this))
     clear HJ61
     have HY2 := hide (okN_some (unhide HJ62))
     have HJ90 := hide (by have := unhide HJ3; rw [unhide HY2] at this; exact this)
     by_cases hb : isS [125] la = true
     ·have hq : isS [125] la = true := by simpa using hb
      have HJ91 := hide (thn_sg hq (unhide HJ90))
      clear HJ90
      have CC := hide (leave_ok (unhide S51).rd [125] hq)
      go_wp2_with fail
      refine (unhide CC).mono ?_
      rintro e w52 ⟨rfl, r2, b⟩
      have S52 := hide ((unhide S51).go b r2)
      have HBQ_52 := bx_go HBQ_51 b (by omega)
      have HKa_52 := hide ((unhide HKa_51).beside b (by omega))
      clear b r2 CC S51 HBQ_51 HKa_51
      have hr1 := okN_some (unhide HJ91)
      have hnn := (unhide HKa_52).node' hlna 4 [] 0 0 [] false (hdT l).p
      have HR := hide (hr1)
      have BX := (unhide S52).bx
      rw [hG] at BX
      obtain ⟨g0, g1, g2, g3, g4, g5, g6, g7, g8, g9⟩ := row_cell10 BX
      obtain ⟨z0, z1, z2, z3, z4, z5, z6, z7, z8, z9⟩ := frozen10 BX
      clear BX
      obtain ⟨Qc0, Qc1, Qc2, Qc3, Qc4, Qc5, Qc6, Qc7, Qc8, Qc9⟩ := row_cell10 (unhide HBQ_52)
      have FF := hide (St.done (unhide S52) (hnn.low (by omega)) rfl hG)
      go_wp2_with fail
      refine bodyPost_ret (ret_c1 (p := 2) (T := 29) rfl _ _ G _ _ _ rfl (unhide FF).1 Tryz.underlying29 rfl size_nd) rfl ?_
      rw [unhide HR]
      exact (unhide FF).2
     ·have hq : isS [125] la = false := by simpa using hb
      have CC := hide (leave_bad (unhide S51).rd [125] hq)
      have HR := hide (thn_sgb hq (unhide HJ90))
      go_wp2_with fail
      refine (unhide CC).mono ?_
      rintro e wx ⟨rfl, b⟩
      have HX := hide ((unhide S51).bad b)
      clear b CC
      unfold fltP
      go_wp2_with fail
      exact ⟨rfl, by rw [unhide HR]; exact ⟨rfl, unhide HX⟩⟩
    ·have hq : isS [125] la = false := by simpa using hb
     have CC := hide ((by have := seesSign_any (unhide S50).rd [125]; rw [hq] at this; exact this))
     go_wp2_with fail
     refine (unhide CC).mono ?_
     rintro e w51 ⟨rfl, b⟩
     have S51 := hide ((unhide S50).below b)
     have HBQ_51 := bx_be HBQ_50 b
     have HKa_51 := hide ((unhide HKa_50).beside (Beside.of_below (gr := c.g) b) (by omega))
     clear b CC S50 HBQ_50 HKa_50
     have HJ62 := hide ((by have := (unhide HJ61); rw [if_neg (by rw [hq]; decide)] at this; exact this))
     clear HJ61
     go_upto_region 3 with fail
     obtain ⟨-, -, -, -, -, -, -, -, Qc8, -⟩ := row_cell10 (unhide HBQ_51)
     have HS0 : Hid (w51.drew.cell? ⟨Q, 8, none⟩ = some (.slice ak na ck)) := hide (Qc8)
     refine till_begin (S := fun w' => w'.cell? ⟨Q, 8, none⟩ = some (.slice ak na ck)) 7 (by kernel_rfl) ?_
     obtain ⟨w52, hWD⟩ : ∃ zz, w51.drew = zz := ⟨_, rfl⟩
     have bD : Below w51.heap.size w51 w52 := by rw [← hWD]; exact (Below.refl _ _).drew
     rw [hWD] at HS0
     rw [hWD]
     have S52 := hide ((unhide S51).below bD)
     have HBQ_52 := bx_be HBQ_51 bD
     have HKa_52 := hide ((unhide HKa_51).beside (Beside.of_below (gr := c.g) bD) (by omega))
     clear hWD bD S51 HBQ_51 HKa_51
     clear Qc8
     refine till_take 0 (v := .pointer (some ⟨Q, 8, none⟩)) (some 11) rfl rfl rfl (by kernel_rfl) (by kernel_rfl) (by kernel_rfl) (by kernel_rfl) (fun _ _ _ h => h) (Or.inl ⟨by rfl, fun u hu => by obtain b0 := hu; go_simp⟩) (unhide HS0) ?_
     try simp only [Act.put, List.setIfInBounds_toArray, List.set_cons_zero, List.set_cons_succ]
     refine till_take 1 (v := .slice ak na ck) (some 12) rfl rfl rfl (by kernel_rfl) (by kernel_rfl) (by kernel_rfl) (by kernel_rfl) (fun _ _ _ h => h) (Or.inl ⟨by rfl, fun u hu => by obtain b0 := hu; go_simp⟩) (unhide HS0) ?_
     try simp only [Act.put, List.setIfInBounds_toArray, List.set_cons_zero, List.set_cons_succ]
     refine till_take 2 (v := .pointer (some ⟨c.g, 0, none⟩)) (some 13) rfl rfl rfl (by kernel_rfl) (by kernel_rfl) (by kernel_rfl) (by kernel_rfl) (fun _ _ _ h => h) (Or.inl ⟨by rfl, fun u hu => by obtain b0 := hu; go_simp⟩) (unhide HS0) ?_
     try simp only [Act.put, List.setIfInBounds_toArray, List.set_cons_zero, List.set_cons_succ]
     obtain ⟨yx, hy, hth⟩ := bnd_some (unhide HJ62)
     have HJ63 := hide (hth)
     clear HJ62
     clear hth
     have CR := hide (ihs (f1 := g1) (by omega) hy (unhide S52).rd)
     have HYX := hide hy
     clear hy
     rcases yx with ⟨ea, ep⟩ | ⟨nsx, lx⟩
     ·have HR := hide ((by have hy := thn_err (unhide HJ63); have ho := unhide HJ3; rw [hy] at ho; exact thn_err ho))
      refine till_one 3 (by kernel_rfl) rfl (fun K hK => ?_)
      go_simp
      refine (unhide CR).mono ?_
      rintro e wx ⟨rfl, b⟩
      have HX := hide ((unhide S52).bad b)
      clear b CR
      unfold fltP
      go_wp2_with fail
      exact ⟨rfl, by rw [unhide HR]; exact ⟨rfl, unhide HX⟩⟩
     ·have HJ64 := hide (thn_ok (unhide HJ63))
      clear HJ63
      refine till_one 3 (by kernel_rfl) rfl (fun K hK => ?_)
      go_simp
      refine (unhide CR).mono ?_
      rintro e w53 ⟨kx, tx, vkx, vnx, vsx, fx, nx, akx, ckx, px, Zx, rfl, hlx, hn, r2, b⟩
      have S53 := hide ((unhide S52).go b r2)
      have HBQ_53 := bx_go HBQ_52 b (by omega)
      have HKa_53 := hide ((unhide HKa_52).beside b (by omega))
      obtain ⟨lox, hlo⟩ : ∃ zz, w52.heap.size = zz := ⟨_, rfl⟩
      have ltlox : w.heap.size < lox := by rw [← hlo]; exact (unhide S52).lt
      have lqQ_x : Q < lox := by rw [← hlo]; exact (Array.getElem?_eq_some_iff.1 (unhide HBQ_52)).1
      have HWa_x := hide ((unhide HKa_52).vlt hlo)
      have lea_x := (unhide HKa_52).ok.le
      rw [hlo] at lea_x
      rw [hlo] at hn
      have HNx_53 := hide hn
      clear hlo b r2 hn CR S52 HBQ_52 HKa_52
      clear HS0
      have HS0 : Hid (w53.cell? ⟨Q, 8, none⟩ = some (.slice ak na ck)) := hide (by exact (row_cell10 (unhide HBQ_53)).2.2.2.2.2.2.2.2.1)
      go_wp2_with fail
      refine hK.out _ _ (Or.inr (unhide HS0)) ?_
      clear hK K 
      try simp only [Act.put, List.setIfInBounds_toArray, List.set_cons_zero, List.set_cons_succ]
      obtain ⟨w54, hwr⟩ : ∃ zz, w53.alloc (.cells #[.int .i64 (kx : Int), .string (bA tx), .int .i64 (vkx : Int), .int .i64 (vnx : Int), .string (bA vsx), .slice none 0 0, .slice none 0 0, .bool fx, .slice akx nx ckx, .int .i64 (px : Int)] 29) = zz := ⟨_, rfl⟩
      have b : Below w53.heap.size w53 w54 := by rw [← hwr]; exact (Below.refl _ _).alloc (Nat.le_refl _) _
      obtain ⟨hx, hhx⟩ : ∃ zz, w53.heap.size = zz := ⟨_, rfl⟩
      have at4 : Hid (w54.heap[hx]? = some (.cells #[.int .i64 (kx : Int), .string (bA tx), .int .i64 (vkx : Int), .int .i64 (vnx : Int), .string (bA vsx), .slice none 0 0, .slice none 0 0, .bool fx, .slice akx nx ckx, .int .i64 (px : Int)] 29 (0, 0))) := hide (by rw [← hwr, ← hhx]; exact heap_alloc_new _ _)
      have S54 := hide ((unhide S53).below b)
      have HBQ_54 := bx_be HBQ_53 b
      have HKa_54 := hide ((unhide HKa_53).beside (Beside.of_below (gr := c.g) b) (by omega))
      have HNx_54 := hide ((unhide HNx_53).beside (Beside.of_below (gr := c.g) b) (by omega))
      clear b S53 HBQ_53 HKa_53 HNx_53
      refine till_one 4 (by kernel_rfl) rfl (fun K hK => ?_)
      go_simp
      try rw [hwr]
      try rw [hhx]
      clear HS0
      have HS0 : Hid (w54.cell? ⟨Q, 8, none⟩ = some (.slice ak na ck)) := hide (by exact (row_cell10 (unhide HBQ_54)).2.2.2.2.2.2.2.2.1)
      refine hK.out _ _ (Or.inr (unhide HS0)) ?_
      clear hK K hwr hhx
      try simp only [Act.put, List.setIfInBounds_toArray, List.set_cons_zero, List.set_cons_succ]
      obtain ⟨ind, hi0, hi1, hi2, hi3⟩ := info_nd
      have hkl := (unhide HKa_54).own
      rw [hlna] at hkl
      have HKL := hide hkl
      clear hkl
      refine till_one 5 (by kernel_rfl) rfl (fun K hK => ?_)
      refine step_append_lies _ (by rfl) _ _ 27 (by rfl) (Q + 1) 29 ind _ 10 144 Tryz.underlying27 hi0 hi1 hi2 hi3 rfl (by omega) (.slice ak na ck) (na) _ (by rfl) (unhide HKL) ⟨hx, 0, none⟩ 1 1 [.int .i64 (kx : Int), .string (bA tx), .int .i64 (vkx : Int), .int .i64 (vnx : Int), .string (bA vsx), .slice none 0 0, .slice none 0 0, .bool fx, .slice akx nx ckx, .int .i64 (px : Int)] (by rfl) (by rfl) (World.news_of_block (unhide at4)) (ndC_one _ _ _ _ _ _ _ _ _ _) (by omega) (by unfold maxLen; have := hbna; omega) (by have := hbna; omega) (unhide HKa_54).ok.le _ rfl ?_
      intro g5 cap5 w55 hown5 hgrow5 hat5 hlt5
      change K (Act.put _ (some 16) _) w55
      clear hi0 hi1 hi2 hi3 HKL ind at4
      have hne : ∀ x, x < (Q + 1) → some x ≠ (.slice ak na ck : Value).ownBlock := fun x hx e => by have := ((unhide HKa_54).own.lt x e.symm).1; omega
      have bb : Below (Q + 1) w54 w55 := (Below.refl _ _).grown hgrow5 (unhide HKa_54).ok.le (fun x hx => ((unhide HKa_54).own.lt x hx).1)
      have S55 := hide ((unhide S54).below2 bb (by omega))
      have HBQ_55 : Hid (w55.heap[Q]? = some (.cells #[.int .i64 4, .string ⟨#[]⟩, .int .i64 0, .int .i64 0, .string ⟨#[]⟩, .slice none 0 0, .slice none 0 0, .bool false, .slice ak na ck, .int .i64 ((hdT l).p : Int)] 29 (0, 0))) := hide ((bb.block Q (by omega)).trans (unhide HBQ_54))
      have HKn_55 := hide (Kr.push (unhide HKa_54) (unhide HNx_54) (by omega) (unhide HWa_x).2 (unhide HWa_x).1 hown5 (by rw [List.length_append, hlx, hlna]) hgrow5 hat5)
      clear bb hne hown5 hgrow5 hat5 hlt5 HS0 S54 HBQ_54 HKa_54 HNx_54
      have HS0 : Hid (w55.cell? ⟨Q, 8, none⟩ = some (.slice ak na ck)) := hide (by exact (row_cell10 (unhide HBQ_55)).2.2.2.2.2.2.2.2.1)
      refine hK.out _ _ (Or.inr (unhide HS0)) ?_
      clear hK K 
      try simp only [Act.put, List.setIfInBounds_toArray, List.set_cons_zero, List.set_cons_succ]
      refine till_take 6 (v := .pointer (some ⟨Q, 8, none⟩)) (some 17) rfl rfl rfl (by kernel_rfl) (by kernel_rfl) (by kernel_rfl) (by kernel_rfl) (fun _ _ _ h => h) (Or.inl ⟨by rfl, fun u hu => by obtain b0 := hu; go_simp⟩) (unhide HS0) ?_
      try simp only [Act.put, List.setIfInBounds_toArray, List.set_cons_zero, List.set_cons_succ]
      obtain ⟨-, -, -, -, -, -, -, -, g8, -⟩ := row_cell10 (unhide HBQ_55)
      have z8 := frozen_of_row w55 Q 8 _ _ (unhide HBQ_55)
      refine till_one 7 (by kernel_rfl) rfl (fun K hK => ?_)
      go_simp
      refine hK.out _ _ (Or.inl (by first | rfl | trivial)) ?_
      clear hK K HS0 g8 z8
      try simp only [Act.put, List.setIfInBounds_toArray, List.set_cons_zero, List.set_cons_succ]
      refine till_done (by kernel_rfl) ?_ _
      obtain ⟨w56, hw⟩ : ∃ zz, w55.setCell ⟨Q, 8, none⟩ (.slice (some ⟨g5, 0, none⟩) (na + 1) cap5) = zz := ⟨_, rfl⟩
      have HBQ_56 : Hid (w56.heap[Q]? = some (.cells #[.int .i64 4, .string ⟨#[]⟩, .int .i64 0, .int .i64 0, .string ⟨#[]⟩, .slice none 0 0, .slice none 0 0, .bool false, .slice (some ⟨g5, 0, none⟩) (na + 1) cap5, .int .i64 ((hdT l).p : Int)] 29 (0, 0))) := hide (by rw [← hw, heap_setCell_same w55 Q 8 _ _ _ (unhide HBQ_55)]; rfl)
      have S56 : Hid (St w c 29 #[.int .i64 0, .string ⟨#[]⟩, .int .i64 0, .int .i64 0, .string ⟨#[]⟩, .slice none 0 0, .slice none 0 0, .bool false, .slice none 0 0, .int .i64 0] w56 lx (d + 1)) := hide (by rw [← hw]; exact (unhide S55).own Q 8 _ ltQ)
      have HKn_56 := hide ((unhide HKn_55).but (q := Q) (w' := w56) (fun b _ hb => by rw [← hw]; exact heap_setCell_other _ _ _ _ hb) (by rw [← hw]; simp) (by omega))
      rw [hw]
      clear hw S55 HBQ_55 HKn_55
      have hpl := PJ_len g1 9 0 [] la (d + 1) nsx lx ⟨by decide, by omega⟩ (unhide HYX)
      simp only [twoJ, List.length_nil, reduceIte, Nat.reduceEqDiff] at hpl
      go_wp2_with fail
      go_roundg g1
      case measure => omega
      case rel => exact ⟨acc ++ nsx, lx, na + 1, some ⟨g5, 0, none⟩, cap5, _, _, hide ⟨by omega, (unhide HJ64), by rw [List.length_append, hlx, hlna], by omega⟩, hide ⟨unhide S56, unhide HBQ_56, unhide HKn_56⟩⟩
  ·have CC := hide (ent_deep (unhide S1).rd [123] hq (show d = 24 by omega))
   have HR := hide (thn_end hq (show d = 24 by omega) (unhide HJ1))
   go_wp2_with fail
   refine (unhide CC).mono ?_
   rintro e wx ⟨rfl, b⟩
   have HX := hide ((unhide S1).bad b)
   clear b CC
   unfold fltP
   go_wp2_with fail
   exact ⟨rfl, by rw [unhide HR]; exact ⟨rfl, unhide HX⟩⟩
 ·have hq : isS [123] l = false := by simpa using hb
  have CC := hide (ent_bad (unhide S1).rd [123] hq)
  have HR := hide (thn_enb hq (unhide HJ1))
  go_wp2_with fail
  refine (unhide CC).mono ?_
  rintro e wx ⟨rfl, b⟩
  have HX := hide ((unhide S1).bad b)
  clear b CC
  unfold fltP
  go_wp2_with fail
  exact ⟨rfl, by rw [unhide HR]; exact ⟨rfl, unhide HX⟩⟩
end Go.Proofs.YtgalfhlclmkbfaaGreatDoor

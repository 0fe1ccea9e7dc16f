/-
  Layer 17 (parse): the document's reader: what passes over a token that must stand there, opens and closes; the row of a sign; conditions: the reader's state.
  Layer 17 (parse): the document's reader: the row of a sign, a literal; no conditions.
  Layer 17 (parse): the document's reader: expressions, brackets; conditions: the reader's state.
-/
import Derived.Test.YtgalfhlclmkbfaaGreatDoorD12
set_option linter.unusedVariables false
set_option linter.unusedSimpArgs false
namespace Go.Proofs.YtgalfhlclmkbfaaGreatDoor
open Go.RowKit
set_option linter.unusedVariables false
set_option linter.unusedSimpArgs false
set_option maxRecDepth 100000 in
set_option maxHeartbeats 4000000 in
theorem must_any {c : Cx} {σ : Sg} {w : World} (h : Rq w c σ) (kd : Nat) (s : List UInt8) :
  Calls Tryz.prog 24 #[.pointer (some ⟨c.g, 0, none⟩), .int .i64 (kd : Int), .string (bA s)] w fun e w' => e = .returned (.agg (tkA (muQ c.ts kd s σ).1)) ∧ Rq w' c (muQ c.ts kd s σ).2 ∧ Beside c.g w w' := by
 have S1 := hide (Sq.start (d := 0) h 52 #[.int .i64 0, .string ⟨#[]⟩, .int .i64 0, .int .i64 0])
 obtain ⟨w1, hw1⟩ : ∃ w1, w.alloc (.cells #[.int .i64 0, .string ⟨#[]⟩, .int .i64 0, .int .i64 0] 52) = w1 := ⟨_, rfl⟩
 rw [hw1] at S1
 obtain ⟨G, hG⟩ : ∃ G, w.heap.size = G := ⟨_, rfl⟩
 have CI := hide (isq_any (unhide S1).rd kd s)
 cases hq : isQ c.ts kd s σ with
 |true =>
  have e1 : muQ c.ts kd s σ = (tkQ c.ts σ, nxQ c.ts σ) := by unfold muQ; rw [if_pos hq]
  rw [e1]
  rw [hq] at CI
  obtain ⟨⟨k, t, n, p⟩, ht⟩ : ∃ t, tkQ c.ts σ = t := ⟨_, rfl⟩
  rw [ht]
  simp only [tkA]
  have HT := hide ht
  clear h hq e1 ht
  go_enter Tryz.func24, Tryz.ntmps24
  go_wp2_with fail
  refine (unhide CI).mono ?_
  rintro e w2 ⟨rfl, b2⟩
  have S2 := hide ((unhide S1).below b2)
  have CN := hide (next_any (unhide S2).rd)
  rw [unhide HT] at CN
  simp only [tkA] at CN
  clear b2 CI S1 hw1
  go_wp2_with fail
  refine (unhide CN).mono ?_
  rintro e w3 ⟨rfl, r3, b3⟩
  have S3 := hide ((unhide S2).go (d' := 0) b3 r3)
  clear b3 r3 CN S2
  have BX := (unhide S3).bx
  rw [hG] at BX
  obtain ⟨g0, g1, g2, g3⟩ := row_cell4 BX
  have z0 := frozen_of_row _ G 0 _ _ BX
  have z1 := frozen_of_row _ G 1 _ _ BX
  have z2 := frozen_of_row _ G 2 _ _ BX
  have z3 := frozen_of_row _ G 3 _ _ BX
  clear BX
  go_wp2_with fail
  have F6 := (unhide S3).fin4 (.int .i64 (k : Int)) (.string (bA t)) (.int .i64 (n : Int)) (.int .i64 (p : Int))
  rw [hG] at F6
  exact bodyPost_ret (ret_c1 (p := 6) (T := 52) rfl _ _ G _ _ _ rfl F6.1 Tryz.underlying52 rfl size_tk) rfl ⟨rfl, F6.2⟩
 |false =>
  have e1 : muQ c.ts kd s σ = (⟨0, [], 0, 0⟩, wrQ c.ts 170 σ) := by unfold muQ; rw [if_neg (by rw [hq]; simp)]
  rw [e1]
  rw [hq] at CI
  show Calls Tryz.prog 24 #[.pointer (some ⟨c.g, 0, none⟩), .int .i64 (kd : Int), .string (bA s)] w fun e w' => e = .returned (.agg #[.int .i64 0, .string ⟨#[]⟩, .int .i64 0, .int .i64 0]) ∧ Rq w' c (wrQ c.ts 170 σ) ∧ Beside c.g w w'
  clear h hq e1
  go_enter Tryz.func24, Tryz.ntmps24
  go_wp2_with fail
  refine (unhide CI).mono ?_
  rintro e w2 ⟨rfl, b2⟩
  have S2 := hide ((unhide S1).below b2)
  have CN := hide (wrong_any (unhide S2).rd 170)
  clear b2 CI S1 hw1
  go_wp2_with fail
  refine (unhide CN).mono ?_
  rintro e w3 ⟨rfl, r3, b3⟩
  have S3 := hide ((unhide S2).go (d' := 0) b3 r3)
  clear b3 r3 CN S2
  have BX := (unhide S3).bx
  rw [hG] at BX
  obtain ⟨g0, g1, g2, g3⟩ := row_cell4 BX
  have z0 := frozen_of_row _ G 0 _ _ BX
  have z1 := frozen_of_row _ G 1 _ _ BX
  have z2 := frozen_of_row _ G 2 _ _ BX
  have z3 := frozen_of_row _ G 3 _ _ BX
  clear BX
  go_wp2_with fail
  have F6 := (unhide S3).fin4 (.int .i64 0) (.string ⟨#[]⟩) (.int .i64 0) (.int .i64 0)
  rw [hG] at F6
  exact bodyPost_ret (ret_c1 (p := 6) (T := 52) rfl _ _ G _ _ _ rfl F6.1 Tryz.underlying52 rfl size_tk) rfl ⟨rfl, F6.2⟩
set_option maxRecDepth 100000 in
set_option maxHeartbeats 4000000 in
theorem opens_any {c : Cx} {σ : Sg} {w : World} (h : Rq w c σ) :
  Calls Tryz.prog 88 #[.pointer (some ⟨c.g, 0, none⟩)] w fun e w' => e = .returned (.agg (tkA (opQ c.ts σ).1)) ∧ Rq w' c (opQ c.ts σ).2 ∧ Beside c.g w w' := by
 have S1 := hide (Sq.start (d := 0) h 52 #[.int .i64 0, .string ⟨#[]⟩, .int .i64 0, .int .i64 0])
 obtain ⟨w1, hw1⟩ : ∃ w1, w.alloc (.cells #[.int .i64 0, .string ⟨#[]⟩, .int .i64 0, .int .i64 0] 52) = w1 := ⟨_, rfl⟩
 rw [hw1] at S1
 obtain ⟨G, hG⟩ : ∃ G, w.heap.size = G := ⟨_, rfl⟩
 obtain ⟨c0, c1, c2, c3, c4⟩ := (unhide S1).rd.cells
 obtain ⟨f1, f2, f3, f4, hgl⟩ := (unhide S1).rd.frz
 obtain ⟨so, hso⟩ : ∃ z, σ.o = z := ⟨_, rfl⟩
 by_cases hq : 24 ≤ σ.o
 ·have e1 : opQ c.ts σ = (⟨0, [], 0, 0⟩, wrQ c.ts 171 σ) := by unfold opQ; rw [if_pos hq]
  rw [e1]
  show Calls Tryz.prog 88 #[.pointer (some ⟨c.g, 0, none⟩)] w fun e w' => e = .returned (.agg #[.int .i64 0, .string ⟨#[]⟩, .int .i64 0, .int .i64 0]) ∧ Rq w' c (wrQ c.ts 171 σ) ∧ Beside c.g w w'
  have CN := hide (wrong_any (unhide S1).rd 171)
  rw [hso] at hq c2
  clear h e1 hso c0 c1 c3 c4 f1 f3 f4
  go_enter Tryz.func88, Tryz.ntmps88
  go_wp2_with fail
  refine (unhide CN).mono ?_
  rintro e w3 ⟨rfl, r3, b3⟩
  have S3 := hide ((unhide S1).go (d' := 0) b3 r3)
  clear b3 r3 CN S1 hw1 c2 f2
  have BX := (unhide S3).bx
  rw [hG] at BX
  obtain ⟨g0, g1, g2, g3⟩ := row_cell4 BX
  have z0 := frozen_of_row _ G 0 _ _ BX
  have z1 := frozen_of_row _ G 1 _ _ BX
  have z2 := frozen_of_row _ G 2 _ _ BX
  have z3 := frozen_of_row _ G 3 _ _ BX
  clear BX
  go_wp2_with fail
  have F6 := (unhide S3).fin4 (.int .i64 0) (.string ⟨#[]⟩) (.int .i64 0) (.int .i64 0)
  rw [hG] at F6
  exact bodyPost_ret (ret_c1 (p := 2) (T := 52) rfl _ _ G _ _ _ rfl F6.1 Tryz.underlying52 rfl size_tk) rfl ⟨rfl, F6.2⟩
 ·have e1 : opQ c.ts σ = (tkQ c.ts σ, nxQ c.ts ⟨σ.i, wrI (σ.o + 1), σ.e, σ.a⟩) := by unfold opQ; rw [if_neg hq]
  rw [e1]
  have S2 := hide ((unhide S1).go (d' := 0) (Beside.refl c.g w1).set ((unhide S1).rd.seto (wrI (σ.o + 1))))
  have CN := hide (next_any (unhide S2).rd)
  have e2 : tkQ c.ts ⟨σ.i, wrI (σ.o + 1), σ.e, σ.a⟩ = tkQ c.ts σ := rfl
  rw [e2] at CN
  obtain ⟨⟨k, t, n, p⟩, ht⟩ : ∃ t, tkQ c.ts σ = t := ⟨_, rfl⟩
  rw [ht] at CN
  rw [ht]
  simp only [tkA] at CN ⊢
  obtain ⟨σ2, hσ2⟩ : ∃ z, nxQ c.ts ⟨σ.i, wrI (σ.o + 1), σ.e, σ.a⟩ = z := ⟨_, rfl⟩
  rw [hσ2] at CN
  rw [hσ2]
  have hw9 : wrI (σ.o + 1) = wrap64 (so + 1) := by rw [hso]; rfl
  obtain ⟨w2, hw2⟩ : ∃ w2, w1.setCell ⟨c.g, 2, none⟩ (.int .i64 (wrap64 (so + 1))) = w2 := ⟨_, rfl⟩
  rw [hw9, hw2] at S2 CN
  have HW := hide hw2
  rw [hso] at hq c2
  clear h e1 e2 hso ht hσ2 hw9 hw2 c0 c1 c3 c4 f1 f3 f4
  go_enter Tryz.func88, Tryz.ntmps88
  go_upto_region 5 with fail
  rw [unhide HW]
  clear HW c2 f2 hw1
  go_wp2_with fail
  refine (unhide CN).mono ?_
  rintro e w3 ⟨rfl, r3, b3⟩
  have S3 := hide ((unhide S2).go (d' := 0) b3 r3)
  clear b3 r3 CN S2 S1
  have BX := (unhide S3).bx
  rw [hG] at BX
  obtain ⟨g0, g1, g2, g3⟩ := row_cell4 BX
  have z0 := frozen_of_row _ G 0 _ _ BX
  have z1 := frozen_of_row _ G 1 _ _ BX
  have z2 := frozen_of_row _ G 2 _ _ BX
  have z3 := frozen_of_row _ G 3 _ _ BX
  clear BX
  go_wp2_with fail
  have F6 := (unhide S3).fin4 (.int .i64 (k : Int)) (.string (bA t)) (.int .i64 (n : Int)) (.int .i64 (p : Int))
  rw [hG] at F6
  exact bodyPost_ret (ret_c1 (p := 2) (T := 52) rfl _ _ G _ _ _ rfl F6.1 Tryz.underlying52 rfl size_tk) rfl ⟨rfl, F6.2⟩
set_option maxRecDepth 100000 in
set_option maxHeartbeats 4000000 in
theorem closes_any {c : Cx} {σ : Sg} {w : World} (h : Rq w c σ) (s : List UInt8) :
  Calls Tryz.prog 90 #[.pointer (some ⟨c.g, 0, none⟩), .string (bA s)] w fun e w' => e = .returned (.tuple #[]) ∧ Rq w' c (clQ c.ts s σ) ∧ Beside c.g w w' := by
 have CM := hide (must_any h 5 s)
 unfold clQ dnQ
 obtain ⟨⟨⟨k, t, n, p⟩, σ1⟩, hm⟩ : ∃ z, muQ c.ts 5 s σ = z := ⟨_, rfl⟩
 rw [hm] at CM
 rw [hm]
 simp only [tkA] at CM ⊢
 obtain ⟨i, so, se, sa⟩ := σ1
 clear h hm
 go_enter Tryz.func90, Tryz.ntmps90
 go_wp2_with fail
 refine (unhide CM).mono ?_
 rintro e w2 ⟨rfl, r2, b2⟩
 obtain ⟨c0, c1, c2, c3, c4⟩ := r2.cells
 obtain ⟨f1, f2, f3, f4, hgl⟩ := r2.frz
 have HF : Hid (Rq (w2.setCell ⟨c.g, 2, none⟩ (.int .i64 (wrap64 (so - 1)))) c ⟨i, wrI (so - 1), se, sa⟩ ∧ Beside c.g w (w2.setCell ⟨c.g, 2, none⟩ (.int .i64 (wrap64 (so - 1))))) := hide (And.intro (r2.seto (wrI (so - 1))) (b2.set (f := 2) (v := .int .i64 (wrI (so - 1)))))
 clear r2 b2 CM c0 c1 c3 c4 f1 f3 f4
 go_wp2_with fail
 go_end0
 exact ⟨rfl, unhide HF⟩
end Go.Proofs.YtgalfhlclmkbfaaGreatDoor

namespace Go.Proofs.YtgalfhlclmkbfaaGreatDoor
open Go.RowKit
set_option linter.unusedVariables false
set_option linter.unusedSimpArgs false
set_option maxRecDepth 100000 in
set_option maxHeartbeats 4000000 in
theorem level_any (t : Tk) (w : World) :
  Calls Tryz.prog 69 #[.agg (tkA t)] w fun e w' => e = .returned (.int .i64 (lvT t : Int)) ∧ Below w.heap.size w w' := by
 obtain ⟨k, t, n, p⟩ := t
 simp only [tkA]
 obtain ⟨L, hL⟩ : ∃ L, lvT ⟨k, t, n, p⟩ = L := ⟨_, rfl⟩
 rw [hL]
 unfold lvT at hL
 simp only [] at hL
 obtain ⟨w2, hw2⟩ : ∃ w2, w.alloc (.cells #[.int .i64 (k : Int), .string (bA t), .int .i64 (n : Int), .int .i64 (p : Int)] 52) = w2 := ⟨_, rfl⟩
 have A2 : w2.heap[w.heap.size]? = some (.cells #[.int .i64 (k : Int), .string (bA t), .int .i64 (n : Int), .int .i64 (p : Int)] 52 (0, 0)) := by rw [← hw2]; exact heap_alloc_new _ _
 have B2 : Below w.heap.size w w2 := by rw [← hw2]; exact (Below.refl _ _).alloc (Nat.le_refl _) _
 have H2 := hide B2
 obtain ⟨a0, a1, a2, a3⟩ := row_cell4 A2
 obtain ⟨G, hG⟩ : ∃ G, w.heap.size = G := ⟨_, rfl⟩
 rw [hG] at a0 a1 a2 a3
 have HW := hide hw2
 clear A2 B2 hw2
 go_enter Tryz.func69, Tryz.ntmps69
 go_upto_region 1 with fail
 rw [unhide HW]
 try rw [hG]
 clear HW
 by_cases hk : k = 5
 ·subst hk
  rw [if_pos rfl] at hL
  have a0' : w2.cell? ⟨G, 0, none⟩ = some (.int .i64 5) := a0
  clear a0
  by_cases h0 : t = [124, 124]
  ·subst h0
   have HL : Hid (L = 1) := hide (hL.symm.trans (by decide +kernel))
   have ee : ((bA [124, 124]).toList == [124, 124]) = true := by kernel_rfl
   clear hL
   go_wp2_with fail
   go_ret
   exact ⟨by rw [unhide HL]; rfl, by first | exact unhide H2 | (rw [← hG]; exact unhide H2)⟩
  have e0 : ((bA t).toList == [124, 124]) = false := beq_eq_false_iff_ne.2 (fun e => h0 (by rw [bA_list] at e; exact e))
  have m0 : ¬ (bA t).toList = [124, 124] := fun e => h0 (by rw [bA_list] at e; exact e)
  by_cases h1 : t = [38, 38]
  ·subst h1
   have HL : Hid (L = 2) := hide (hL.symm.trans (by decide +kernel))
   have ee : ((bA [38, 38]).toList == [38, 38]) = true := by kernel_rfl
   clear hL
   go_wp2_with fail
   go_ret
   exact ⟨by rw [unhide HL]; rfl, by first | exact unhide H2 | (rw [← hG]; exact unhide H2)⟩
  have e1 : ((bA t).toList == [38, 38]) = false := beq_eq_false_iff_ne.2 (fun e => h1 (by rw [bA_list] at e; exact e))
  have m1 : ¬ (bA t).toList = [38, 38] := fun e => h1 (by rw [bA_list] at e; exact e)
  by_cases h2 : t = [61, 61]
  ·subst h2
   have HL : Hid (L = 3) := hide (hL.symm.trans (by decide +kernel))
   have ee : ((bA [61, 61]).toList == [61, 61]) = true := by kernel_rfl
   clear hL
   go_wp2_with fail
   go_ret
   exact ⟨by rw [unhide HL]; rfl, by first | exact unhide H2 | (rw [← hG]; exact unhide H2)⟩
  have e2 : ((bA t).toList == [61, 61]) = false := beq_eq_false_iff_ne.2 (fun e => h2 (by rw [bA_list] at e; exact e))
  have m2 : ¬ (bA t).toList = [61, 61] := fun e => h2 (by rw [bA_list] at e; exact e)
  by_cases h3 : t = [33, 61]
  ·subst h3
   have HL : Hid (L = 3) := hide (hL.symm.trans (by decide +kernel))
   have ee : ((bA [33, 61]).toList == [33, 61]) = true := by kernel_rfl
   clear hL
   go_wp2_with fail
   go_ret
   exact ⟨by rw [unhide HL]; rfl, by first | exact unhide H2 | (rw [← hG]; exact unhide H2)⟩
  have e3 : ((bA t).toList == [33, 61]) = false := beq_eq_false_iff_ne.2 (fun e => h3 (by rw [bA_list] at e; exact e))
  have m3 : ¬ (bA t).toList = [33, 61] := fun e => h3 (by rw [bA_list] at e; exact e)
  by_cases h4 : t = [60]
  ·subst h4
   have HL : Hid (L = 3) := hide (hL.symm.trans (by decide +kernel))
   have ee : ((bA [60]).toList == [60]) = true := by kernel_rfl
   clear hL
   go_wp2_with fail
   go_ret
   exact ⟨by rw [unhide HL]; rfl, by first | exact unhide H2 | (rw [← hG]; exact unhide H2)⟩
  have e4 : ((bA t).toList == [60]) = false := beq_eq_false_iff_ne.2 (fun e => h4 (by rw [bA_list] at e; exact e))
  have m4 : ¬ (bA t).toList = [60] := fun e => h4 (by rw [bA_list] at e; exact e)
  by_cases h5 : t = [60, 61]
  ·subst h5
   have HL : Hid (L = 3) := hide (hL.symm.trans (by decide +kernel))
   have ee : ((bA [60, 61]).toList == [60, 61]) = true := by kernel_rfl
   clear hL
   go_wp2_with fail
   go_ret
   exact ⟨by rw [unhide HL]; rfl, by first | exact unhide H2 | (rw [← hG]; exact unhide H2)⟩
  have e5 : ((bA t).toList == [60, 61]) = false := beq_eq_false_iff_ne.2 (fun e => h5 (by rw [bA_list] at e; exact e))
  have m5 : ¬ (bA t).toList = [60, 61] := fun e => h5 (by rw [bA_list] at e; exact e)
  by_cases h6 : t = [62]
  ·subst h6
   have HL : Hid (L = 3) := hide (hL.symm.trans (by decide +kernel))
   have ee : ((bA [62]).toList == [62]) = true := by kernel_rfl
   clear hL
   go_wp2_with fail
   go_ret
   exact ⟨by rw [unhide HL]; rfl, by first | exact unhide H2 | (rw [← hG]; exact unhide H2)⟩
  have e6 : ((bA t).toList == [62]) = false := beq_eq_false_iff_ne.2 (fun e => h6 (by rw [bA_list] at e; exact e))
  have m6 : ¬ (bA t).toList = [62] := fun e => h6 (by rw [bA_list] at e; exact e)
  by_cases h7 : t = [62, 61]
  ·subst h7
   have HL : Hid (L = 3) := hide (hL.symm.trans (by decide +kernel))
   have ee : ((bA [62, 61]).toList == [62, 61]) = true := by kernel_rfl
   clear hL
   go_wp2_with fail
   go_ret
   exact ⟨by rw [unhide HL]; rfl, by first | exact unhide H2 | (rw [← hG]; exact unhide H2)⟩
  have e7 : ((bA t).toList == [62, 61]) = false := beq_eq_false_iff_ne.2 (fun e => h7 (by rw [bA_list] at e; exact e))
  have m7 : ¬ (bA t).toList = [62, 61] := fun e => h7 (by rw [bA_list] at e; exact e)
  by_cases h8 : t = [43]
  ·subst h8
   have HL : Hid (L = 4) := hide (hL.symm.trans (by decide +kernel))
   have ee : ((bA [43]).toList == [43]) = true := by kernel_rfl
   clear hL
   go_wp2_with fail
   go_ret
   exact ⟨by rw [unhide HL]; rfl, by first | exact unhide H2 | (rw [← hG]; exact unhide H2)⟩
  have e8 : ((bA t).toList == [43]) = false := beq_eq_false_iff_ne.2 (fun e => h8 (by rw [bA_list] at e; exact e))
  have m8 : ¬ (bA t).toList = [43] := fun e => h8 (by rw [bA_list] at e; exact e)
  by_cases h9 : t = [45]
  ·subst h9
   have HL : Hid (L = 4) := hide (hL.symm.trans (by decide +kernel))
   have ee : ((bA [45]).toList == [45]) = true := by kernel_rfl
   clear hL
   go_wp2_with fail
   go_ret
   exact ⟨by rw [unhide HL]; rfl, by first | exact unhide H2 | (rw [← hG]; exact unhide H2)⟩
  have e9 : ((bA t).toList == [45]) = false := beq_eq_false_iff_ne.2 (fun e => h9 (by rw [bA_list] at e; exact e))
  have m9 : ¬ (bA t).toList = [45] := fun e => h9 (by rw [bA_list] at e; exact e)
  by_cases h10 : t = [42]
  ·subst h10
   have HL : Hid (L = 5) := hide (hL.symm.trans (by decide +kernel))
   have ee : ((bA [42]).toList == [42]) = true := by kernel_rfl
   clear hL
   go_wp2_with fail
   go_ret
   exact ⟨by rw [unhide HL]; rfl, by first | exact unhide H2 | (rw [← hG]; exact unhide H2)⟩
  have e10 : ((bA t).toList == [42]) = false := beq_eq_false_iff_ne.2 (fun e => h10 (by rw [bA_list] at e; exact e))
  have m10 : ¬ (bA t).toList = [42] := fun e => h10 (by rw [bA_list] at e; exact e)
  by_cases h11 : t = [47]
  ·subst h11
   have HL : Hid (L = 5) := hide (hL.symm.trans (by decide +kernel))
   have ee : ((bA [47]).toList == [47]) = true := by kernel_rfl
   clear hL
   go_wp2_with fail
   go_ret
   exact ⟨by rw [unhide HL]; rfl, by first | exact unhide H2 | (rw [← hG]; exact unhide H2)⟩
  have e11 : ((bA t).toList == [47]) = false := beq_eq_false_iff_ne.2 (fun e => h11 (by rw [bA_list] at e; exact e))
  have m11 : ¬ (bA t).toList = [47] := fun e => h11 (by rw [bA_list] at e; exact e)
  by_cases h12 : t = [37]
  ·subst h12
   have HL : Hid (L = 5) := hide (hL.symm.trans (by decide +kernel))
   have ee : ((bA [37]).toList == [37]) = true := by kernel_rfl
   clear hL
   go_wp2_with fail
   go_ret
   exact ⟨by rw [unhide HL]; rfl, by first | exact unhide H2 | (rw [← hG]; exact unhide H2)⟩
  have e12 : ((bA t).toList == [37]) = false := beq_eq_false_iff_ne.2 (fun e => h12 (by rw [bA_list] at e; exact e))
  have m12 : ¬ (bA t).toList = [37] := fun e => h12 (by rw [bA_list] at e; exact e)
  have HL : Hid (L = 0) := hide (hL.symm.trans (by unfold rowS; simp [h0, h1, h2, h3, h4, h5, h6, h7, h8, h9, h10, h11, h12]))
  clear hL h0 h1 h2 h3 h4 h5 h6 h7 h8 h9 h10 h11 h12
  go_wp2_with fail
  go_ret
  exact ⟨by rw [unhide HL]; rfl, by first | exact unhide H2 | (rw [← hG]; exact unhide H2)⟩
 ·rw [if_neg hk] at hL
  have HL : Hid (L = 0) := hide hL.symm
  have n1 : ¬ (k : Int) = 5 := by omega
  have n2 : ((k : Int) == 5) = false := beq_eq_false_iff_ne.2 n1
  clear hL hk
  go_wp2_with fail
  go_ret
  exact ⟨by rw [unhide HL]; rfl, by first | exact unhide H2 | (rw [← hG]; exact unhide H2)⟩
end Go.Proofs.YtgalfhlclmkbfaaGreatDoor

namespace Go.Proofs.YtgalfhlclmkbfaaGreatDoor
open Go.RowKit
set_option linter.unusedVariables false
set_option linter.unusedSimpArgs false
theorem bq_some {o : Option (List Nd × Sg)} {k : List Nd → Sg → Option (List Nd × Sg)} {r : List Nd × Sg} (h : bq o k = some r) : ∃ ns σ, o = some (ns, σ) ∧ k ns σ = some r := by
 cases o with
 |none => cases h
 |some y => exact ⟨y.1, y.2, rfl, h⟩
theorem okq_some {n : List Nd} {σ : Sg} {r : List Nd × Sg} (h : okq n σ = some r) : r = (n, σ) := by cases h; rfl
set_option maxRecDepth 100000 in
set_option maxHeartbeats 4000000 in
theorem exprq_step {c : Cx} {σ : Sg} {w : World} {r : List Nd × Sg} {f : Nat} (ihr : ∀ {x : Nat} {c : Cx} {σ : Sg} {w : World} {r : List Nd × Sg}, 1 ≤ x → x ≤ 6 → RJ c.ts f 2 x [] σ = some r → Rq w c σ → Calls Tryz.prog 36 #[.pointer (some ⟨c.g, 0, none⟩), .int .i64 (x : Int)] w fun e w' => NqP c w r e w') (hJ : RJ c.ts (f + 1) 0 0 [] σ = some r) (h : Rq w c σ) :
  Calls Tryz.prog 23 #[.pointer (some ⟨c.g, 0, none⟩)] w fun e w' => NqP c w r e w' := by
 have S1 := hide (Sq.start (d := 0) h 29 #[.int .i64 0, .string ⟨#[]⟩, .int .i64 0, .int .i64 0, .string ⟨#[]⟩, .slice none 0 0, .slice none 0 0, .bool false, .slice none 0 0, .int .i64 0])
 obtain ⟨w1, hw1⟩ : ∃ w1, w.alloc (.cells #[.int .i64 0, .string ⟨#[]⟩, .int .i64 0, .int .i64 0, .string ⟨#[]⟩, .slice none 0 0, .slice none 0 0, .bool false, .slice none 0 0, .int .i64 0] 29) = w1 := ⟨_, rfl⟩
 rw [hw1] at S1
 obtain ⟨G, hG⟩ : ∃ G, w.heap.size = G := ⟨_, rfl⟩
 have hgw : c.g < w.heap.size := h.frz.2.2.2.2
 clear h
 go_enter Tryz.func23, Tryz.ntmps23
 have HJ0 := hide (show RJ c.ts f 2 1 [] σ = some r from hJ)
 clear hJ
 obtain ⟨⟨nsx, sx⟩, hrx⟩ : ∃ zz, r = zz := ⟨_, rfl⟩
 have CR := hide (ihr (show 1 ≤ 1 by omega) (show 1 ≤ 6 by omega) (unhide HJ0) (unhide S1).rd)
 have HR1 := hide hrx
 rw [hrx] at CR
 clear hrx
 go_wp2_with fail
 refine (unhide CR).mono ?_
 rintro e w2 ⟨kx, tx, vkx, vnx, vsx, fx, nx, akx, ckx, px, Zx, rfl, hlx, hn, r2, b⟩
 simp only [] at hlx hn r2
 have S2 := hide ((unhide S1).go (d' := 0) b r2)
 have HNx_2 := hide (hn.low (lo' := w.heap.size + 1) (unhide S1).lt)
 clear b r2 hn CR S1
 have HR := hide (unhide HR1)
 have BX := (unhide S2).bx
 rw [hG] at BX
 obtain ⟨g0, g1, g2, g3, g4, g5, g6, g7, g8, g9⟩ := row_cell10 BX
 obtain ⟨z0, z1, z2, z3, z4, z5, z6, z7, z8, z9⟩ := frozen10 BX
 clear BX
 have FF := hide (Sq.done (unhide S2) (unhide HNx_2) hlx hG)
 go_wp2_with fail
 refine bodyPost_ret (ret_c1 (p := 2) (T := 29) rfl _ _ G _ _ _ rfl (unhide FF).1 Tryz.underlying29 rfl size_nd) rfl ?_
 rw [unhide HR]
 exact (unhide FF).2
end Go.Proofs.YtgalfhlclmkbfaaGreatDoor

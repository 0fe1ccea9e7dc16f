/-
  Layer 17 (parse): the small steps of the document's reader; conditions: the reader's state.
-/
import Derived.Test.YtgalfhlclmkbfaaGreatDoorD11
set_option linter.unusedVariables false
set_option linter.unusedSimpArgs false
namespace Go.Proofs.YtgalfhlclmkbfaaGreatDoor
open Go.RowKit
set_option linter.unusedVariables false
set_option linter.unusedSimpArgs false
set_option maxRecDepth 100000 in
set_option maxHeartbeats 4000000 in
theorem peek_any {c : Cx} {σ : Sg} {w : World} (h : Rq w c σ) :
  Calls Tryz.prog 33 #[.pointer (some ⟨c.g, 0, none⟩)] w fun e w' => e = .returned (.agg (tkA (tkQ c.ts σ))) ∧ Below w.heap.size w w' := by
 obtain ⟨c0, c1, c2, c3, c4⟩ := h.cells
 obtain ⟨f1, f2, f3, f4, hgl⟩ := h.frz
 obtain ⟨htl, t0, t1, t2, t3⟩ := h.tok
 have hix := h.ix
 have hln := h.len
 have hcp := h.cap
 have hap := h.apart
 obtain ⟨⟨k, t, n, p⟩, ht⟩ : ∃ t, tkQ c.ts σ = t := ⟨_, rfl⟩
 rw [ht] at t0 t1 t2 t3
 rw [ht]
 obtain ⟨g, tb, ct, ts⟩ := c
 obtain ⟨i, so, se, sa⟩ := σ
 simp only [] at c0 c1 c2 c3 c4 f1 f2 f3 f4 hgl htl t0 t1 t2 t3 hln hcp hap hix ⊢
 obtain ⟨N, hN⟩ : ∃ N, ts.length = N := ⟨_, rfl⟩
 rw [hN] at c0 hln hcp hix
 have j0 : (0 : Int) ≤ (i : Int) := by omega
 have j1 : (i : Int) < (N : Int) := by omega
 obtain ⟨o, ho⟩ : ∃ o, i * 4 = o := ⟨_, rfl⟩
 have r1 := add_row tb (i * 4)
 rw [ho] at r1 t0 t1 t2 t3
 obtain ⟨G, hG⟩ : ∃ G, w.heap.size = G := ⟨_, rfl⟩
 obtain ⟨w1, hw1⟩ : ∃ w1, w.alloc (.cells #[.int .i64 0, .string ⟨#[]⟩, .int .i64 0, .int .i64 0] 52) = w1 := ⟨_, rfl⟩
 have A1 : w1.heap[G]? = some (.cells #[.int .i64 0, .string ⟨#[]⟩, .int .i64 0, .int .i64 0] 52 (0, 0)) := by rw [← hw1, ← hG]; exact heap_alloc_new _ _
 have B1 : Below w.heap.size w w1 := by rw [← hw1]; exact (Below.refl _ _).alloc (Nat.le_refl _) _
 have c0 := cell_later B1 c0
 have c1 := cell_later B1 c1
 have t0 := cell_later B1 t0
 have t1 := cell_later B1 t1
 have t2 := cell_later B1 t2
 have t3 := cell_later B1 t3
 obtain ⟨a0, a1, a2, a3⟩ := row_cell4 A1
 have y0 := frozen_of_row w1 G 0 _ _ A1
 have y1 := frozen_of_row w1 G 1 _ _ A1
 have y2 := frozen_of_row w1 G 2 _ _ A1
 have y3 := frozen_of_row w1 G 3 _ _ A1
 have HA := hide A1
 have HB := hide B1
 clear h hN ht c2 c3 c4 f1 f2 f3 f4 A1 B1
 go_enter Tryz.func33, Tryz.ntmps33
 go_upto_region 1 with fail
 go_region
 go_wp2_with fail
 exact bodyPost_ret (ret_c1 (p := 2) (T := 52) rfl _ _ G _ _ _ rfl (set4 (unhide HA) _ _ _ _) Tryz.underlying52 rfl size_tk) rfl ⟨rfl, by first | exact set4_below (unhide HB) (by omega) _ _ _ _ | exact (set4_below (unhide HB) (by omega) _ _ _ _).drew | (have hq := unhide HB; rw [hG] at hq; exact (set4_below hq (Nat.le_refl _) _ _ _ _).drew)⟩
set_option maxRecDepth 100000 in
set_option maxHeartbeats 4000000 in
theorem wrong_any {c : Cx} {σ : Sg} {w : World} (h : Rq w c σ) (er : Nat) :
  Calls Tryz.prog 38 #[.pointer (some ⟨c.g, 0, none⟩), .int .i64 (er : Int)] w fun e w' => e = .returned (.tuple #[]) ∧ Rq w' c (wrQ c.ts er σ) ∧ Beside c.g w w' := by
 obtain ⟨c0, c1, c2, c3, c4⟩ := h.cells
 obtain ⟨f1, f2, f3, f4, hgl⟩ := h.frz
 obtain ⟨htl, t0, t1, t2, t3⟩ := h.tok
 have hix := h.ix
 have hln := h.len
 have hap := h.apart
 obtain ⟨⟨k, t, n, p⟩, ht⟩ : ∃ t, tkQ c.ts σ = t := ⟨_, rfl⟩
 rw [ht] at t3
 unfold wrQ
 rw [ht]
 by_cases he : σ.e = 0
 ·rw [if_pos he]
  have HR := hide (h.sete er (er : Int) rfl)
  have HR2 := hide (fun u (hu : Rq u c ⟨σ.i, σ.o, er, σ.a⟩) => (hu.seta p).drew)
  have HB := hide (Beside.refl c.g w)
  rw [he] at c3
  obtain ⟨g, tb, ct, ts⟩ := c
  obtain ⟨i, so, se, sa⟩ := σ
  simp only [] at c0 c1 c2 c3 c4 f1 f2 f3 f4 hgl htl t3 hln hap hix HR HR2 HB ⊢
  obtain ⟨N, hN⟩ : ∃ N, ts.length = N := ⟨_, rfl⟩
  rw [hN] at c0 hln hix
  have j0 : (0 : Int) ≤ (i : Int) := by omega
  have j1 : (i : Int) < (N : Int) := by omega
  obtain ⟨o, ho⟩ : ∃ o, i * 4 = o := ⟨_, rfl⟩
  have r1 := add_row tb (i * 4)
  rw [ho] at r1 t3
  have c3' : w.cell? ⟨g, 3, none⟩ = some (.int .i64 0) := c3
  have d0 : (w.setCell ⟨g, 3, none⟩ (.int .i64 (er : Int))).cell? ⟨g, 0, none⟩ = some (.slice (some ⟨tb, 0, none⟩) N ct) := by have := (unhide HR).cells.1; rw [← hN]; exact this
  have d1 : (w.setCell ⟨g, 3, none⟩ (.int .i64 (er : Int))).cell? ⟨g, 1, none⟩ = some (.int .i64 (i : Int)) := (unhide HR).cells.2.1
  have d4 : (w.setCell ⟨g, 3, none⟩ (.int .i64 (er : Int))).cell? ⟨g, 4, none⟩ = some (.int .i64 (sa : Int)) := (unhide HR).cells.2.2.2.2
  have z4 : (w.setCell ⟨g, 3, none⟩ (.int .i64 (er : Int))).frozen? ⟨g, 4, none⟩ = false := (unhide HR).frz.2.2.2.1
  have u3 : (w.setCell ⟨g, 3, none⟩ (.int .i64 (er : Int))).cell? ⟨tb, o + 3, none⟩ = some (.int .i64 (p : Int)) := (World.cell?_of_block (heap_setCell_other _ _ _ _ hap)).trans t3
  have B1 : Beside g w (w.setCell ⟨g, 3, none⟩ (.int .i64 (er : Int))) := (unhide HB).set
  obtain ⟨w1, hw1⟩ : ∃ w1, w.setCell ⟨g, 3, none⟩ (.int .i64 (er : Int)) = w1 := ⟨_, rfl⟩
  rw [hw1] at HR d0 d1 d4 z4 u3 B1
  have HF := hide (And.intro ((unhide HR2) w1 (unhide HR)) (show Beside g w (w1.setCell ⟨g, 4, none⟩ (.int .i64 (p : Int))).drew from B1.set.trans (Beside.of_below (Below.refl _ _).drew)))
  have HW := hide hw1
  clear h ht he hN HR HR2 HB B1 hw1 c4 f4 c1 c2 c0
  go_enter Tryz.func38, Tryz.ntmps38
  go_upto_region 2 with fail
  rw [unhide HW]
  clear HW c3 c3' f3 t3
  go_region
  go_wp2_with fail
  go_end0
  exact ⟨rfl, unhide HF⟩
 ·rw [if_neg he]
  have k1 : ¬ (σ.e : Int) = 0 := by omega
  have k2 : ((σ.e : Int) == 0) = false := beq_eq_false_iff_ne.2 k1
  have HF := hide (And.intro h (Beside.refl c.g w))
  obtain ⟨E, hE⟩ : ∃ E, σ.e = E := ⟨_, rfl⟩
  rw [hE] at c3 k1 k2
  clear h ht he hE
  go_enter Tryz.func38, Tryz.ntmps38
  go_wp2_with fail
  go_end0
  exact ⟨rfl, unhide HF⟩
set_option maxRecDepth 100000 in
set_option maxHeartbeats 4000000 in
theorem isq_any {c : Cx} {σ : Sg} {w : World} (h : Rq w c σ) (kd : Nat) (s : List UInt8) :
  Calls Tryz.prog 37 #[.pointer (some ⟨c.g, 0, none⟩), .int .i64 (kd : Int), .string (bA s)] w fun e w' => e = .returned (.bool (isQ c.ts kd s σ)) ∧ Below w.heap.size w w' := by
 have CP := hide (peek_any h)
 have HQ := hide h
 unfold isQ
 obtain ⟨⟨k, t, n, p⟩, ht⟩ : ∃ t, tkQ c.ts σ = t := ⟨_, rfl⟩
 rw [ht] at CP
 rw [ht]
 simp only [tkA] at CP ⊢
 obtain ⟨R, hR⟩ : ∃ R, decide (σ.e = 0 ∧ k = kd ∧ (kd = 1 ∨ kd = 3 ∨ kd = 4 ∨ kd = 0 ∨ t = s)) = R := ⟨_, rfl⟩
 rw [hR]
 have HR := hide hR
 clear h ht hR
 go_enter Tryz.func37, Tryz.ntmps37
 go_wp2_with fail
 refine (unhide CP).mono ?_
 rintro e w1 ⟨rfl, b1⟩
 have HB := hide b1
 clear b1 CP
 go_upto_region 2 with fail
 obtain ⟨w2, hw2⟩ : ∃ w2, w1.alloc (.cells #[.int .i64 (k : Int), .string (bA t), .int .i64 (n : Int), .int .i64 (p : Int)] 52) = w2 := ⟨_, rfl⟩
 have A2 : w2.heap[w1.heap.size]? = some (.cells #[.int .i64 (k : Int), .string (bA t), .int .i64 (n : Int), .int .i64 (p : Int)] 52 (0, 0)) := by rw [← hw2]; exact heap_alloc_new _ _
 have B2 : Below w1.heap.size w1 w2 := by rw [← hw2]; exact (Below.refl _ _).alloc (Nat.le_refl _) _
 have H2 : Hid (Below w.heap.size w w2) := hide ((unhide HB).trans (B2.mono (unhide HB).size))
 obtain ⟨_, _, _, c3, _⟩ := ((unhide HQ).below (unhide H2)).cells
 obtain ⟨a0, a1, a2, a3⟩ := row_cell4 A2
 rw [hw2]
 clear hw2 A2 B2 HB HQ
 obtain ⟨g, tb, ct, ts⟩ := c
 obtain ⟨i, so, se, sa⟩ := σ
 simp only [] at c3 HR ⊢
 by_cases he : se = 0
 ·subst he
  have c3' : w2.cell? ⟨g, 3, none⟩ = some (.int .i64 0) := c3
  clear c3
  by_cases hk : k = kd
  ·subst hk
   by_cases h1 : k = 1 ∨ k = 3 ∨ k = 4 ∨ k = 0
   ·have hd : decide ((0 : Nat) = 0 ∧ k = k ∧ (k = 1 ∨ k = 3 ∨ k = 4 ∨ k = 0 ∨ t = s)) = true := decide_eq_true ⟨rfl, rfl, by rcases h1 with h | h | h | h <;> simp [h]⟩
    have HD : Hid (R = true) := hide ((unhide HR).symm.trans hd)
    clear hd HR
    rcases h1 with rfl | rfl | rfl | rfl
    all_goals
     go_wp2_with fail
     go_ret
     exact ⟨by rw [unhide HD]; rfl, unhide H2⟩
   ·have n1 : ¬ (k : Int) = 1 := by omega
    have n3 : ¬ (k : Int) = 3 := by omega
    have n4 : ¬ (k : Int) = 4 := by omega
    have n0 : ¬ (k : Int) = 0 := by omega
    have b1 : ((k : Int) == 1) = false := beq_eq_false_iff_ne.2 n1
    have b3 : ((k : Int) == 3) = false := beq_eq_false_iff_ne.2 n3
    have b4 : ((k : Int) == 4) = false := beq_eq_false_iff_ne.2 n4
    have b0 : ((k : Int) == 0) = false := beq_eq_false_iff_ne.2 n0
    by_cases hs : t = s
    ·subst hs
     have hd : decide ((0 : Nat) = 0 ∧ k = k ∧ (k = 1 ∨ k = 3 ∨ k = 4 ∨ k = 0 ∨ t = t)) = true := decide_eq_true ⟨rfl, rfl, by simp⟩
     have HD : Hid (R = true) := hide ((unhide HR).symm.trans hd)
     clear hd h1 HR
     go_wp2_with fail
     go_ret
     exact ⟨by rw [unhide HD]; first | rfl | simp, unhide H2⟩
    ·have hs' : ¬ bA t = bA s := fun e => hs (bA_inj.1 e)
     have hs2 : ¬ (bA t).toList = (bA s).toList := fun e => hs' (bytes_inj.1 e)
     have hs3 : ((bA t).toList == (bA s).toList) = false := beq_eq_false_iff_ne.2 hs2
     have hd : decide ((0 : Nat) = 0 ∧ k = k ∧ (k = 1 ∨ k = 3 ∨ k = 4 ∨ k = 0 ∨ t = s)) = false := decide_eq_false (fun e => by rcases e.2.2 with h | h | h | h | h <;> first | omega | exact hs h)
     have HD : Hid (R = false) := hide ((unhide HR).symm.trans hd)
     clear hd h1 hs hs' HR
     go_wp2_with fail
     go_ret
     exact ⟨by rw [unhide HD]; first | rfl | simp [hs2, hs3], unhide H2⟩
  ·have n1 : ¬ (k : Int) = (kd : Int) := by omega
   have b1 : ((k : Int) == (kd : Int)) = false := beq_eq_false_iff_ne.2 n1
   have hd : decide ((0 : Nat) = 0 ∧ k = kd ∧ (kd = 1 ∨ kd = 3 ∨ kd = 4 ∨ kd = 0 ∨ t = s)) = false := decide_eq_false (fun e => hk e.2.1)
   have HD : Hid (R = false) := hide ((unhide HR).symm.trans hd)
   clear hd hk HR
   go_wp2_with fail
   go_ret
   exact ⟨by rw [unhide HD]; first | rfl | simp, unhide H2⟩
 ·have n1 : ¬ (se : Int) = 0 := by omega
  have b1 : ((se : Int) == 0) = false := beq_eq_false_iff_ne.2 n1
  have hd : decide (se = 0 ∧ k = kd ∧ (kd = 1 ∨ kd = 3 ∨ kd = 4 ∨ kd = 0 ∨ t = s)) = false := decide_eq_false (fun e => he e.1)
  have HD : Hid (R = false) := hide ((unhide HR).symm.trans hd)
  clear hd he HR
  go_wp2_with fail
  go_ret
  exact ⟨by rw [unhide HD]; first | rfl | simp, unhide H2⟩
set_option maxRecDepth 100000 in
set_option maxHeartbeats 4000000 in
theorem signq_any {c : Cx} {σ : Sg} {w : World} (h : Rq w c σ) (s : List UInt8) :
  Calls Tryz.prog 64 #[.pointer (some ⟨c.g, 0, none⟩), .string (bA s)] w fun e w' => e = .returned (.bool (isQ c.ts 5 s σ)) ∧ Below w.heap.size w w' := by
 have CP := hide (isq_any h 5 s)
 obtain ⟨b, hb⟩ : ∃ b, isQ c.ts 5 s σ = b := ⟨_, rfl⟩
 rw [hb] at CP
 rw [hb]
 clear h hb
 go_enter Tryz.func64, Tryz.ntmps64
 go_wp2_with fail
 refine (unhide CP).mono ?_
 rintro e w1 ⟨rfl, b1⟩
 have HB := hide b1
 clear b1 CP
 go_wp2_with fail
 go_ret
 exact ⟨rfl, unhide HB⟩
set_option maxRecDepth 100000 in
set_option maxHeartbeats 4000000 in
theorem next_any {c : Cx} {σ : Sg} {w : World} (h : Rq w c σ) :
  Calls Tryz.prog 39 #[.pointer (some ⟨c.g, 0, none⟩)] w fun e w' => e = .returned (.agg (tkA (tkQ c.ts σ))) ∧ Rq w' c (nxQ c.ts σ) ∧ Beside c.g w w' := by
 have S1 := hide (Sq.start (d := 0) h 52 #[.int .i64 0, .string ⟨#[]⟩, .int .i64 0, .int .i64 0])
 obtain ⟨w1, hw1⟩ : ∃ w1, w.alloc (.cells #[.int .i64 0, .string ⟨#[]⟩, .int .i64 0, .int .i64 0] 52) = w1 := ⟨_, rfl⟩
 rw [hw1] at S1
 have CP := hide (peek_any (unhide S1).rd)
 obtain ⟨⟨k, t, n, p⟩, ht⟩ : ∃ t, tkQ c.ts σ = t := ⟨_, rfl⟩
 rw [ht] at CP
 rw [ht]
 simp only [tkA] at CP ⊢
 obtain ⟨G, hG⟩ : ∃ G, w.heap.size = G := ⟨_, rfl⟩
 have hix := h.ix
 have hln := h.len
 obtain ⟨σ2, hσ⟩ : ∃ z, nxQ c.ts σ = z := ⟨_, rfl⟩
 rw [hσ]
 have HS2 := hide hσ
 clear h ht hσ
 go_enter Tryz.func39, Tryz.ntmps39
 go_wp2_with fail
 refine (unhide CP).mono ?_
 rintro e w2 ⟨rfl, b2⟩
 have S2 := hide ((unhide S1).below b2)
 obtain ⟨w3, hw3⟩ : ∃ w3, w2.alloc (.cells #[.int .i64 (k : Int), .string (bA t), .int .i64 (n : Int), .int .i64 (p : Int)] 52) = w3 := ⟨_, rfl⟩
 have A3 : w3.heap[w2.heap.size]? = some (.cells #[.int .i64 (k : Int), .string (bA t), .int .i64 (n : Int), .int .i64 (p : Int)] 52 (0, 0)) := by rw [← hw3]; exact heap_alloc_new _ _
 have B3 : Below w2.heap.size w2 w3 := by rw [← hw3]; exact (Below.refl _ _).alloc (Nat.le_refl _) _
 have S3 := hide ((unhide S2).below B3)
 obtain ⟨Q, hQ⟩ : ∃ Q, w2.heap.size = Q := ⟨_, rfl⟩
 rw [hQ] at A3
 have hGQ : G < Q := by rw [← hG, ← hQ]; exact (unhide S2).lt
 have HW := hide hw3
 clear hw1 hw3 b2 CP S1 B3
 obtain ⟨c0, c1, c2, c3, c4⟩ := (unhide S3).rd.cells
 obtain ⟨f1, f2, f3, f4, hgl⟩ := (unhide S3).rd.frz
 have hgG : c.g < G := by rw [← hG]; exact (unhide S3).g1
 have HA := hide A3
 go_upto_region 2 with fail
 rw [unhide HW]
 try rw [hQ]
 clear HW A3
 by_cases hl : σ.i + 1 < c.ts.length
 ·have hnx : nxQ c.ts σ = ⟨σ.i + 1, σ.o, σ.e, σ.a⟩ := by unfold nxQ; rw [if_pos hl]
  have R4 := hide (fun (u : World) (hu : Rq u c σ) => (by have := hu.seti (σ.i + 1) ((σ.i : Int) + 1) (by omega) hl; rw [← hnx, unhide HS2] at this; exact this : Rq (u.setCell ⟨c.g, 1, none⟩ (.int .i64 ((σ.i : Int) + 1))) c σ2))
  obtain ⟨N, hN⟩ : ∃ N, c.ts.length = N := ⟨_, rfl⟩
  obtain ⟨i, hi⟩ : ∃ i, σ.i = i := ⟨_, rfl⟩
  rw [hN] at c0 hl hln
  rw [hi] at c1 hl R4
  have j1 : (i : Int) < (N : Int) - 1 := by omega
  have jw : IntKind.i64.wrap ((N : Int) - 1) = (N : Int) - 1 := by rw [IntKind.wrap_i64]; omega
  have jx : IntKind.i64.wrap ((i : Int) + 1) = (i : Int) + 1 := by rw [IntKind.wrap_i64]; omega
  clear hl hnx hix
  go_quiet (fail)
  have S5 : Hid (Sq w c 52 #[.int .i64 0, .string ⟨#[]⟩, .int .i64 0, .int .i64 0] (w3.drewN nq) σ 0) := hide ((unhide S3).below (below_drewN' nq w3))
  have A5 : Hid ((w3.drewN nq).heap[Q]? = some (.cells #[.int .i64 (k : Int), .string (bA t), .int .i64 (n : Int), .int .i64 (p : Int)] 52 (0, 0))) := hide (unhide HA)
  have C5 := (unhide S5).rd.cells.2.1
  have F5 := (unhide S5).rd.frz.1
  rw [hi] at C5
  obtain ⟨u5, hu5⟩ : ∃ u, w3.drewN nq = u := ⟨_, rfl⟩
  rw [hu5] at S5 A5 C5 F5
  rw [hu5]
  have S6 : Hid (Sq w c 52 #[.int .i64 0, .string ⟨#[]⟩, .int .i64 0, .int .i64 0] (u5.setCell ⟨c.g, 1, none⟩ (.int .i64 ((i : Int) + 1))) σ2 0) := hide ((unhide S5).go (Beside.refl c.g u5).set ((unhide R4) u5 (unhide S5).rd))
  have A6 : Hid ((u5.setCell ⟨c.g, 1, none⟩ (.int .i64 ((i : Int) + 1))).heap[Q]? = some (.cells #[.int .i64 (k : Int), .string (bA t), .int .i64 (n : Int), .int .i64 (p : Int)] 52 (0, 0))) := hide (by rw [heap_setCell_other _ _ _ _ (show Q ≠ c.g by omega)]; exact unhide A5)
  obtain ⟨u6, hu6⟩ : ∃ u, u5.setCell ⟨c.g, 1, none⟩ (.int .i64 ((i : Int) + 1)) = u := ⟨_, rfl⟩
  rw [hu6] at S6 A6
  have HW6 := hide hu6
  clear hu5 hu6 R4 HS2 hi hN HA S3 c0 c1 c2 c3 c4 f1 f2 f3 f4
  go_upto_region 4 with fail
  rw [unhide HW6]
  clear HW6 C5 F5
  obtain ⟨x0, x1, x2, x3⟩ := row_cell4 (unhide A6)
  have BX := (unhide S6).bx
  rw [hG] at BX
  obtain ⟨g0, g1, g2, g3⟩ := row_cell4 BX
  have z0 := frozen_of_row u6 G 0 _ _ BX
  have z1 := frozen_of_row u6 G 1 _ _ BX
  have z2 := frozen_of_row u6 G 2 _ _ BX
  have z3 := frozen_of_row u6 G 3 _ _ BX
  clear BX
  go_wp2_with fail
  have F6 := (unhide S6).fin4 (.int .i64 (k : Int)) (.string (bA t)) (.int .i64 (n : Int)) (.int .i64 (p : Int))
  rw [hG] at F6
  exact bodyPost_ret (ret_c1 (p := 2) (T := 52) rfl _ _ G _ _ _ rfl F6.1 Tryz.underlying52 rfl size_tk) rfl ⟨rfl, F6.2⟩
 ·have hnx : nxQ c.ts σ = σ := by unfold nxQ; rw [if_neg hl]
  have H2 : Hid (σ = σ2) := hide (hnx.symm.trans (unhide HS2))
  obtain ⟨N, hN⟩ : ∃ N, c.ts.length = N := ⟨_, rfl⟩
  obtain ⟨i, hi⟩ : ∃ i, σ.i = i := ⟨_, rfl⟩
  rw [hN] at c0 hl hln
  rw [hi] at c1 hl
  have j1 : ¬ (i : Int) < (N : Int) - 1 := by omega
  have jw : IntKind.i64.wrap ((N : Int) - 1) = (N : Int) - 1 := by rw [IntKind.wrap_i64]; omega
  clear hl hnx hix
  go_quiet (fail)
  have S6 : Hid (Sq w c 52 #[.int .i64 0, .string ⟨#[]⟩, .int .i64 0, .int .i64 0] (w3.drewN nq) σ2 0) := hide (by rw [← unhide H2]; exact (unhide S3).below (below_drewN' nq w3))
  have A6 : Hid ((w3.drewN nq).heap[Q]? = some (.cells #[.int .i64 (k : Int), .string (bA t), .int .i64 (n : Int), .int .i64 (p : Int)] 52 (0, 0))) := hide (unhide HA)
  obtain ⟨u6, hu6⟩ : ∃ u, w3.drewN nq = u := ⟨_, rfl⟩
  rw [hu6] at S6 A6
  rw [hu6]
  clear hu6 HS2 H2 hi hN HA S3 c0 c1 c2 c3 c4 f1 f2 f3 f4
  obtain ⟨x0, x1, x2, x3⟩ := row_cell4 (unhide A6)
  have BX := (unhide S6).bx
  rw [hG] at BX
  obtain ⟨g0, g1, g2, g3⟩ := row_cell4 BX
  have z0 := frozen_of_row u6 G 0 _ _ BX
  have z1 := frozen_of_row u6 G 1 _ _ BX
  have z2 := frozen_of_row u6 G 2 _ _ BX
  have z3 := frozen_of_row u6 G 3 _ _ BX
  clear BX
  go_wp2_with fail
  have F6 := (unhide S6).fin4 (.int .i64 (k : Int)) (.string (bA t)) (.int .i64 (n : Int)) (.int .i64 (p : Int))
  rw [hG] at F6
  exact bodyPost_ret (ret_c1 (p := 2) (T := 52) rfl _ _ G _ _ _ rfl F6.1 Tryz.underlying52 rfl size_tk) rfl ⟨rfl, F6.2⟩
end Go.Proofs.YtgalfhlclmkbfaaGreatDoor

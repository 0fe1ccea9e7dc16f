/-
  Layer 17 (parse): the reader's small steps: the next token, what is seen; conditions: the reader's state.
-/
import Derived.Test.YtgalfhlclmkbfaaGreatDoorC15
set_option linter.unusedVariables false
set_option linter.unusedSimpArgs false
namespace Go.Proofs.YtgalfhlclmkbfaaGreatDoor
open Go.RowKit
set_option linter.unusedVariables false
set_option linter.unusedSimpArgs false

theorem ret_c1 {P : Program} {fn : Func} {p : Tmp} {T : TypeId} (h : fn.results = #[.cell p T]) (tmps : Array Value) (w : World) (g : Nat) (c : Array Value) (d : TypeDesc) (t : TypeId)
    (hp : tmps.getD p undef = .pointer (some ⟨g, 0, none⟩)) (hb : w.heap[g]? = some (.cells c t (0, 0))) (hu : P.underlying T = some d) (hd : (match d with | .struct _ | .array _ _ => true | _ => false) = true) (hi : (P.info? T).map (·.size) = some c.size) :
    (results fn tmps).run P w = .ok (.agg c) w := by
  have hl := run_loadVar_row (P := P) w g t T c (0, 0) _ hb hu hd hi
  have hp' : tmps[p]?.getD undef = .pointer (some ⟨g, 0, none⟩) := by simpa using hp
  simp [results, h, hp', asAddr, hl]

theorem size_tk : (Tryz.prog.info? 52).map (·.size) = some 4 := by kernel_rfl
theorem size_nd : (Tryz.prog.info? 29).map (·.size) = some 10 := by kernel_rfl

theorem set4 {w : World} {q : Nat} {x0 x1 x2 x3 : Value} {T : TypeId} (h : w.heap[q]? = some (.cells #[x0, x1, x2, x3] T (0, 0))) (y0 y1 y2 y3 : Value) :
    ((((w.setCell ⟨q, 0, none⟩ y0).setCell ⟨q, 1, none⟩ y1).setCell ⟨q, 2, none⟩ y2).setCell ⟨q, 3, none⟩ y3).heap[q]? = some (.cells #[y0, y1, y2, y3] T (0, 0)) := by
  have e0 := heap_setCell_same w q 0 _ T y0 h
  have e1 := heap_setCell_same _ q 1 _ T y1 e0
  have e2 := heap_setCell_same _ q 2 _ T y2 e1
  have e3 := heap_setCell_same _ q 3 _ T y3 e2
  simpa only [List.setIfInBounds_toArray, List.set_cons_zero, List.set_cons_succ] using e3
theorem set4_below {w w0 : World} {B q : Nat} (h : Below B w0 w) (hq : B ≤ q) (y0 y1 y2 y3 : Value) : Below B w0 ((((w.setCell ⟨q, 0, none⟩ y0).setCell ⟨q, 1, none⟩ y1).setCell ⟨q, 2, none⟩ y2).setCell ⟨q, 3, none⟩ y3) :=
  (((h.setCell (p := ⟨q, 0, none⟩) hq _).setCell (p := ⟨q, 1, none⟩) hq _).setCell (p := ⟨q, 2, none⟩) hq _).setCell (p := ⟨q, 3, none⟩) hq _

theorem run_tk0 (y0 y1 y2 y3 : Value) (w : World) : (Instr.field 52 (.agg #[y0, y1, y2, y3]) 0).run Tryz.prog w = .ok y0 w := by kernel_rfl
theorem wpl_tk0 {w : World} {ops : Array Oper} {rest : List Oper} {o : Oper} {a : Act} {Q : Exit → Act → World → Prop} (hgd : o.guard = none) (x : Operand) (ho : o.op = .field 52 x 0) (y0 y1 y2 y3 : Value) (hx : a.eval x = .agg #[y0, y1, y2, y3])
    (h : wpList Tryz.prog ops Q rest (a.put o.dst y0) w) : wpList Tryz.prog ops Q (o :: rest) a w := by
  refine wpList_plain hgd fun K hK => ?_
  have hr := run_tk0 y0 y1 y2 y3 w
  unfold Oper.wp
  simp [execOp, ho, hx, hr, Result.andThen]
  exact hK _ _ h
theorem run_tk1 (y0 y1 y2 y3 : Value) (w : World) : (Instr.field 52 (.agg #[y0, y1, y2, y3]) 1).run Tryz.prog w = .ok y1 w := by kernel_rfl
theorem wpl_tk1 {w : World} {ops : Array Oper} {rest : List Oper} {o : Oper} {a : Act} {Q : Exit → Act → World → Prop} (hgd : o.guard = none) (x : Operand) (ho : o.op = .field 52 x 1) (y0 y1 y2 y3 : Value) (hx : a.eval x = .agg #[y0, y1, y2, y3])
    (h : wpList Tryz.prog ops Q rest (a.put o.dst y1) w) : wpList Tryz.prog ops Q (o :: rest) a w := by
  refine wpList_plain hgd fun K hK => ?_
  have hr := run_tk1 y0 y1 y2 y3 w
  unfold Oper.wp
  simp [execOp, ho, hx, hr, Result.andThen]
  exact hK _ _ h
theorem run_tk3 (y0 y1 y2 y3 : Value) (w : World) : (Instr.field 52 (.agg #[y0, y1, y2, y3]) 3).run Tryz.prog w = .ok y3 w := by kernel_rfl
theorem wpl_tk3 {w : World} {ops : Array Oper} {rest : List Oper} {o : Oper} {a : Act} {Q : Exit → Act → World → Prop} (hgd : o.guard = none) (x : Operand) (ho : o.op = .field 52 x 3) (y0 y1 y2 y3 : Value) (hx : a.eval x = .agg #[y0, y1, y2, y3])
    (h : wpList Tryz.prog ops Q rest (a.put o.dst y3) w) : wpList Tryz.prog ops Q (o :: rest) a w := by
  refine wpList_plain hgd fun K hK => ?_
  have hr := run_tk3 y0 y1 y2 y3 w
  unfold Oper.wp
  simp [execOp, ho, hx, hr, Result.andThen]
  exact hK _ _ h

set_option maxRecDepth 100000 in
set_option maxHeartbeats 4000000 in
theorem token_any {c : Cx} {l : List Tk} {d : Nat} {w : World} (h : Rd w c l d) :
    Calls Tryz.prog 28 #[.pointer (some ⟨c.g, 0, none⟩)] w fun e w' => e = .returned (.agg (tkA (hdT l))) ∧ Below w.heap.size w w' := by
  obtain ⟨hd1, hd2, hd3⟩ := h.head
  obtain ⟨c0, c1, c2, f1, f2, hgl⟩ := h.cells
  obtain ⟨htl, t0, t1, t2, t3⟩ := h.tok
  have hln := h.len
  have hcp := h.cap
  have hap := h.apart
  obtain ⟨g, tb, ct, ts⟩ := c
  obtain ⟨⟨k, t, n, p⟩, ht⟩ : ∃ t, hdT l = t := ⟨_, rfl⟩
  simp only [] at c0 c1 c2 f1 f2 hgl htl t0 t1 t2 t3 hln hcp hap hd1 hd2 hd3 ht ⊢
  rw [ht] at t0 t1 t2 t3
  rw [ht]
  obtain ⟨N, hN⟩ : ∃ N, ts.length = N := ⟨_, rfl⟩
  rw [hN] at c0 c1 t0 t1 t2 t3 hln hcp hd3
  obtain ⟨i, hi⟩ : ∃ i, N - l.length = i := ⟨_, rfl⟩
  rw [hi] at c1 t0 t1 t2 t3
  have j0 : (0 : Int) ≤ (i : Int) := by omega
  have j1 : (i : Int) < (N : Int) := by omega
  obtain ⟨o, ho⟩ : ∃ o, i * 4 = o := ⟨_, rfl⟩
  have r1 := add_row tb (i * 4)
  rw [ho] at r1 t0 t1 t2 t3
  obtain ⟨G, hG⟩ : ∃ G, w.heap.size = G := ⟨_, rfl⟩
  obtain ⟨w1, hw1⟩ : ∃ w1, w.alloc (.cells #[.int .i64 0, .string ⟨#[]⟩, .int .i64 0, .int .i64 0] 52) = w1 := ⟨_, rfl⟩
  have A1 : w1.heap[G]? = some (.cells #[.int .i64 0, .string ⟨#[]⟩, .int .i64 0, .int .i64 0] 52 (0, 0)) := by rw [← hw1, ← hG]; exact heap_alloc_new _ _
  have B1 : Below w.heap.size w w1 := by rw [← hw1]; exact (Below.refl _ _).alloc (Nat.le_refl _) _
  have c0 := cell_later B1 c0
  have c1 := cell_later B1 c1
  have t0 := cell_later B1 t0
  have t1 := cell_later B1 t1
  have t2 := cell_later B1 t2
  have t3 := cell_later B1 t3
  obtain ⟨a0, a1, a2, a3⟩ := row_cell4 A1
  have y0 := frozen_of_row w1 G 0 _ _ A1
  have y1 := frozen_of_row w1 G 1 _ _ A1
  have y2 := frozen_of_row w1 G 2 _ _ A1
  have y3 := frozen_of_row w1 G 3 _ _ A1
  have HA := hide A1
  have HB := hide B1
  clear h hN hi ht hd1 c2 f1 f2 A1 B1
  go_enter Tryz.func28, Tryz.ntmps28
  go_upto_region 1 with fail
  go_region
  go_wp2_with fail
  exact bodyPost_ret (ret_c1 (p := 2) (T := 52) rfl _ _ G _ _ _ rfl (set4 (unhide HA) _ _ _ _) Tryz.underlying52 rfl size_tk) rfl ⟨rfl, by first | exact set4_below (unhide HB) (by omega) _ _ _ _ | exact (set4_below (unhide HB) (by omega) _ _ _ _).drew | (have hq := unhide HB; rw [hG] at hq; exact (set4_below hq (Nat.le_refl _) _ _ _ _).drew)⟩

set_option maxRecDepth 100000 in
set_option maxHeartbeats 4000000 in
theorem sees_any {c : Cx} {l : List Tk} {d : Nat} {w : World} (h : Rd w c l d) (kd : Nat) (s : List UInt8) :
    Calls Tryz.prog 81 #[.pointer (some ⟨c.g, 0, none⟩), .int .i64 (kd : Int), .string (bA s)] w fun e w' => e = .returned (.bool (isT kd s l)) ∧ Below w.heap.size w w' := by
  have CT := hide (token_any h)
  obtain ⟨g, tb, ct, ts⟩ := c
  unfold isT
  obtain ⟨⟨k, t, n, p⟩, ht⟩ : ∃ t, hdT l = t := ⟨_, rfl⟩
  rw [ht] at CT
  rw [ht]
  simp only [tkA] at CT ⊢
  clear h ht
  go_enter Tryz.func81, Tryz.ntmps81
  go_wp2_with fail
  refine (unhide CT).mono ?_
  rintro e w1 ⟨rfl, b1⟩
  have HB := hide b1
  clear b1 CT
  go_upto_region 2 with fail
  obtain ⟨w2, hw2⟩ : ∃ w2, w1.alloc (.cells #[.int .i64 (k : Int), .string (bA t), .int .i64 (n : Int), .int .i64 (p : Int)] 52) = w2 := ⟨_, rfl⟩
  have A2 : w2.heap[w1.heap.size]? = some (.cells #[.int .i64 (k : Int), .string (bA t), .int .i64 (n : Int), .int .i64 (p : Int)] 52 (0, 0)) := by rw [← hw2]; exact heap_alloc_new _ _
  have B2 : Below w1.heap.size w1 w2 := by rw [← hw2]; exact (Below.refl _ _).alloc (Nat.le_refl _) _
  have H2 : Hid (Below w.heap.size w w2) := hide ((unhide HB).trans (B2.mono (unhide HB).size))
  obtain ⟨a0, a1, a2, a3⟩ := row_cell4 A2
  rw [hw2]
  clear hw2 A2 B2
  by_cases hk : k = kd
  · subst hk
    by_cases hs : t = s
    · subst hs
      go_wp2_with fail
      go_ret
      exact ⟨by simp, unhide H2⟩
    · have hs' : ¬ bA t = bA s := fun e => hs (bA_inj.1 e)
      have hs2 : ¬ (bA t).toList = (bA s).toList := fun e => hs' (bytes_inj.1 e)
      go_wp2_with fail
      go_ret
      exact ⟨by simp [hs, hs2], unhide H2⟩
  · have hk1 : ¬ (k : Int) = (kd : Int) := by omega
    have hk2 : ((k : Int) == (kd : Int)) = false := by simpa using hk1
    go_wp2_with fail
    go_ret
    exact ⟨by simp [hk], unhide H2⟩

set_option maxRecDepth 100000 in
theorem seesSign_any {c : Cx} {l : List Tk} {d : Nat} {w : World} (h : Rd w c l d) (s : List UInt8) :
    Calls Tryz.prog 82 #[.pointer (some ⟨c.g, 0, none⟩), .string (bA s)] w fun e w' => e = .returned (.bool (isS s l)) ∧ Below w.heap.size w w' := by
  have CT := hide (sees_any h 5 s)
  unfold isS
  obtain ⟨b, hb⟩ : ∃ b, isT 5 s l = b := ⟨_, rfl⟩
  rw [hb] at CT
  rw [hb]
  clear h hb
  go_enter Tryz.func82, Tryz.ntmps82
  go_wp2_with fail
  refine (unhide CT).mono ?_
  rintro e w1 ⟨rfl, b1⟩
  have HB := hide b1
  clear b1 CT
  go_wp2_with fail
  go_ret
  exact ⟨rfl, unhide HB⟩

set_option maxRecDepth 100000 in
theorem seesKey_any {c : Cx} {l : List Tk} {d : Nat} {w : World} (h : Rd w c l d) (s : List UInt8) :
    Calls Tryz.prog 47 #[.pointer (some ⟨c.g, 0, none⟩), .string (bA s)] w fun e w' => e = .returned (.bool (isK s l)) ∧ Below w.heap.size w w' := by
  have CT := hide (sees_any h 2 s)
  unfold isK
  obtain ⟨b, hb⟩ : ∃ b, isT 2 s l = b := ⟨_, rfl⟩
  rw [hb] at CT
  rw [hb]
  clear h hb
  go_enter Tryz.func47, Tryz.ntmps47
  go_wp2_with fail
  refine (unhide CT).mono ?_
  rintro e w1 ⟨rfl, b1⟩
  have HB := hide b1
  clear b1 CT
  go_wp2_with fail
  go_ret
  exact ⟨rfl, unhide HB⟩

set_option maxRecDepth 100000 in
theorem refuse_any {c : Cx} {l : List Tk} {d : Nat} {w : World} (h : Rd w c l d) :
    Calls Tryz.prog 29 #[.pointer (some ⟨c.g, 0, none⟩)] w fun e w' => e = fltP 170 (hdT l).p ∧ Below w.heap.size w w' := by
  have CT := hide (token_any h)
  obtain ⟨⟨k, t, n, p⟩, ht⟩ : ∃ t, hdT l = t := ⟨_, rfl⟩
  rw [ht] at CT
  rw [ht]
  simp only [tkA] at CT ⊢
  clear h ht
  go_enter Tryz.func29, Tryz.ntmps29
  go_wp2_with fail
  refine (unhide CT).mono ?_
  rintro e w1 ⟨rfl, b1⟩
  have HB := hide b1
  clear b1 CT
  go_wp2_with (first | (refine wpl_tk3 rfl _ rfl _ _ _ _ rfl ?_))
  exact ⟨rfl, rfl, unhide HB⟩

set_option maxRecDepth 100000 in
set_option maxHeartbeats 4000000 in
theorem pass_any {c : Cx} {l : List Tk} {d : Nat} {w : World} (h : Rd w c l d) (hk : ¬ (hdT l).k = 0) :
    Calls Tryz.prog 48 #[.pointer (some ⟨c.g, 0, none⟩)] w fun e w' => e = .returned (.agg (tkA (hdT l))) ∧ Rd w' c l.tail d ∧ Beside c.g w w' := by
  obtain ⟨G, hG⟩ : ∃ G, w.heap.size = G := ⟨_, rfl⟩
  obtain ⟨w1, hw1⟩ : ∃ w1, w.alloc (.cells #[.int .i64 0, .string ⟨#[]⟩, .int .i64 0, .int .i64 0] 52) = w1 := ⟨_, rfl⟩
  have A1 : w1.heap[G]? = some (.cells #[.int .i64 0, .string ⟨#[]⟩, .int .i64 0, .int .i64 0] 52 (0, 0)) := by rw [← hw1, ← hG]; exact heap_alloc_new _ _
  have B1 : Below w.heap.size w w1 := by rw [← hw1]; exact (Below.refl _ _).alloc (Nat.le_refl _) _
  have h1 := h.below B1
  have CT := hide (token_any h1)
  have HR := hide (And.intro h1 hk)
  have hgl := h.cells.2.2.2.2.2
  have htl := h.tok.1
  have hcl := h1.head
  have hln := h.len
  obtain ⟨⟨k, t, n, p⟩, ht⟩ : ∃ t, hdT l = t := ⟨_, rfl⟩
  rw [ht] at CT
  rw [ht]
  simp only [tkA] at CT ⊢
  have HA := hide A1
  have HB := hide B1
  clear h h1 ht A1 B1
  go_enter Tryz.func48, Tryz.ntmps48
  go_wp2_with fail
  refine (unhide CT).mono ?_
  rintro e w2 ⟨rfl, b2⟩
  have H2 := hide b2
  clear b2 CT
  go_upto_region 2 with fail
  obtain ⟨w3, hw3⟩ : ∃ w3, w2.alloc (.cells #[.int .i64 (k : Int), .string (bA t), .int .i64 (n : Int), .int .i64 (p : Int)] 52) = w3 := ⟨_, rfl⟩
  have A3 : w3.heap[w2.heap.size]? = some (.cells #[.int .i64 (k : Int), .string (bA t), .int .i64 (n : Int), .int .i64 (p : Int)] 52 (0, 0)) := by rw [← hw3]; exact heap_alloc_new _ _
  have B3 : Below w2.heap.size w2 w3 := by rw [← hw3]; exact (Below.refl _ _).alloc (Nat.le_refl _) _
  have X3 : Below w1.heap.size w1 w3 := (unhide H2).trans (B3.mono (unhide H2).size)
  have R3 := (unhide HR).1.below X3
  obtain ⟨c0, c1, c2, f1, f2, hg3⟩ := R3.cells
  have HR3 := hide R3
  have HG3 : Hid (w3.heap[G]? = some (.cells #[.int .i64 0, .string ⟨#[]⟩, .int .i64 0, .int .i64 0] 52 (0, 0)) ∧ Below w.heap.size w w3) := hide ⟨(X3.block G (Array.getElem?_eq_some_iff.1 (unhide HA)).1).trans (unhide HA), (unhide HB).trans (X3.mono (unhide HB).size)⟩
  have hq : G < w2.heap.size := Nat.lt_of_lt_of_le (Array.getElem?_eq_some_iff.1 (unhide HA)).1 (unhide H2).size
  obtain ⟨Q, hQ⟩ : ∃ Q, w2.heap.size = Q := ⟨_, rfl⟩
  rw [hw3]
  rw [hQ] at A3 hq
  rw [hQ]
  have HA3 := hide A3
  obtain ⟨i, hi⟩ : ∃ i, c.ts.length - l.length = i := ⟨_, rfl⟩
  rw [hi] at c1
  have j1 : IntKind.i64.wrap ((i : Int) + 1) = (i : Int) + 1 := by rw [IntKind.wrap_i64]; omega
  have HI := hide hi
  clear R3 X3 B3 A3 hw3 hi
  obtain ⟨g, tb, ct, ts⟩ := c
  simp only [] at c0 c1 c2 f1 f2 hg3 hgl htl hcl hln HR HR3 HI ⊢
  go_upto_region 3 with fail
  have hgG : g < G := by omega
  obtain ⟨w4, hw4⟩ : ∃ w4, w3.setCell ⟨g, 1, none⟩ (.int .i64 ((i : Int) + 1)) = w4 := ⟨_, rfl⟩
  have R4 : Hid (Rd w4 ⟨g, tb, ct, ts⟩ l.tail d) := hide (by rw [← hw4]; exact (unhide HR3).passed (unhide HR).2 _ (by rw [unhide HI]))
  have hG4 : w4.heap[G]? = some (.cells #[.int .i64 0, .string ⟨#[]⟩, .int .i64 0, .int .i64 0] 52 (0, 0)) := by rw [← hw4, heap_setCell_other _ _ _ _ (show G ≠ g by omega)]; exact (unhide HG3).1
  have hQ4 : w4.heap[Q]? = some (.cells #[.int .i64 (k : Int), .string (bA t), .int .i64 (n : Int), .int .i64 (p : Int)] 52 (0, 0)) := by rw [← hw4, heap_setCell_other _ _ _ _ (show Q ≠ g by omega)]; exact unhide HA3
  have HX4 : Hid (Beside g w w4) := hide (by rw [← hw4]; exact (Beside.of_below (unhide HG3).2).set)
  obtain ⟨a0, a1, a2, a3⟩ := row_cell4 hQ4
  obtain ⟨b0, b1, b2, b3⟩ := row_cell4 hG4
  have y0 := frozen_of_row w4 G 0 _ _ hG4
  have y1 := frozen_of_row w4 G 1 _ _ hG4
  have y2 := frozen_of_row w4 G 2 _ _ hG4
  have y3 := frozen_of_row w4 G 3 _ _ hG4
  have HG4 := hide hG4
  rw [hw4]
  clear hw4 hG4 hQ4 c0 c1 c2 f1 f2
  go_wp2_with fail
  have n1 : G ≠ (⟨g, tb, ct, ts⟩ : Cx).g := show G ≠ g by omega
  have n2 : G ≠ (⟨g, tb, ct, ts⟩ : Cx).tb := show G ≠ tb by omega
  exact bodyPost_ret (ret_c1 (p := 2) (T := 52) rfl _ _ G _ _ _ rfl (set4 (unhide HG4) _ _ _ _) Tryz.underlying52 rfl size_tk) rfl ⟨rfl, ((((unhide R4).setN n1 n2).setN n1 n2).setN n1 n2).setN n1 n2, ((((unhide HX4).setN (by omega)).setN (by omega)).setN (by omega)).setN (by omega)⟩
end Go.Proofs.YtgalfhlclmkbfaaGreatDoor

/-
  The walk of the document's own reader of functions (scrupleref09.reader.funcs); conditions: the form's own reach.
-/
import Derived.Test.YtfdnhpmldnmncaaR34
namespace Go.Proofs.Ytfdnhpmldnmncaa
open Go.RowKit
set_option linter.unusedVariables false

theorem Beside.setNew {gr g f : Nat} {w w' : World} {v : Value} (h : Beside gr w w') (hg : w.heap.size ≤ g) : Beside gr w (w'.setCell ⟨g, f, none⟩ v) := by
  have hb := (Below.refl 0 w').setCell (p := ⟨g, f, none⟩) (Nat.zero_le _) v
  exact ⟨hb.os.trans h.os, hb.tape.trans h.tape, hb.output.trans h.output, Nat.le_trans h.size hb.size, fun k hk hn => by rw [heap_setCell_other _ _ _ _ (show k ≠ g by omega)]; exact h.block k hk hn⟩

/-- a part under way, in a box of its own -/
structure Bx (wr u : World) (gb gr : Nat) (bv : Value) (T : TypeId) (cs : Array Value) (a : Nat) (f q : Int) : Prop where
  rd : Qf u gr bv a f q
  bes : Beside gr wr u
  box : u.heap[gb]? = some (.cells cs T (0, 0))
  new : wr.heap.size ≤ gb
  ne : gb ≠ gr

theorem Bx.start {w0 wr : World} {gm gr : Nat} {bv : Value} {a : Nat} {f q : Int} {C F X : Value} {m : Md} {V : Nat → List Value} (h : RdQ w0 wr gm gr bv a f q C F X m V) (T : TypeId) (cs : Array Value) : Bx wr (wr.alloc (.cells cs T)) wr.heap.size gr bv T cs a f q :=
  ⟨h.rd.of_below ((Below.refl _ _).alloc (Nat.le_refl _) _), Beside.of_below ((Below.refl _ _).alloc (Nat.le_refl _) _), heap_alloc_new wr _, Nat.le_refl _, by have := h.lt; omega⟩
theorem Bx.call {wr u u' : World} {gb gr : Nat} {bv : Value} {T : TypeId} {cs : Array Value} {a a' : Nat} {f q f' q' : Int} (h : Bx wr u gb gr bv T cs a f q) (hr : Qf u' gr bv a' f' q') (hb : Beside gr u u') : Bx wr u' gb gr bv T cs a' f' q' :=
  ⟨hr, h.bes.trans hb, (hb.block gb (lt_of_row h.box) h.ne).trans h.box, h.new, h.ne⟩
theorem Bx.store {wr u : World} {gb gr : Nat} {bv : Value} {T : TypeId} {cs : Array Value} {a : Nat} {f q : Int} (h : Bx wr u gb gr bv T cs a f q) (i : Nat) (v : Value) {cs' : Array Value} (hc : cs.setIfInBounds i v = cs') : Bx wr (u.setCell ⟨gb, i, none⟩ v) gb gr bv T cs' a f q := by
  subst hc
  refine ⟨?_, h.bes.setNew h.new, ?_, h.new, h.ne⟩
  · unfold Qf
    rw [heap_setCell_other _ _ _ _ (Ne.symm h.ne)]
    exact h.rd
  · rw [heap_setCell_same u gb i _ _ _ h.box]
theorem Bx.made {w0 wr u : World} {gm gr gb : Nat} {bv : Value} {T : TypeId} {cs : Array Value} {a a' : Nat} {f q f' q' : Int} {C F X : Value} {m : Md} {V : Nat → List Value} (h : Bx wr u gb gr bv T cs a' f' q') (h0 : RdQ w0 wr gm gr bv a f q C F X m V) : RdQ w0 u gm gr bv a' f' q' C F X m V :=
  h0.beside h.bes h.rd

/-- all parts of a section, their number first -/
def rdL (bs : List Int) (most : Int) (f : Md → Nat → Except (Int × Int) (Md × Nat)) (m : Md) (a : Nat) : Except (Int × Int) (Md × Nat) := match rdNo bs a most 92 with
  | .error c => .error (c, a)
  | .ok (n, a1) => rdN f n.toNat m a1

theorem next_q {f : Md → Nat → Except (Int × Int) (Md × Nat)} {n i : Nat} {m' m2 : Md} {a' b5 : Nat} {f5 q5 q q' : Int} {R : Except (Int × Int) (Md × Nat)} (hlt : i < n) (hN : q' = q ∧ rdN f (n - i) m' a' = R)
    (hE : match f m' a' with | .error p => ¬ p.1 = 0 ∧ (f5, q5) = p | .ok (m1, a1) => (b5, f5, q5) = (a1, 0, q') ∧ m1 = m2) : (f5 = 0 ∧ q5 = q ∧ rdN f (n - (i + 1)) m2 b5 = R) ∨ (¬ f5 = 0 ∧ R = .error (f5, q5)) := by
  obtain ⟨rfl, hN⟩ := hN
  rw [show n - i = (n - (i + 1)) + 1 by omega, rdN] at hN
  cases h : f m' a' with
  | error p =>
    rw [h] at hN hE
    obtain ⟨h1, rfl⟩ := hE
    exact Or.inr ⟨h1, hN.symm⟩
  | ok r =>
    obtain ⟨m1, a1⟩ := r
    rw [h] at hN hE
    obtain ⟨h1, rfl⟩ := hE
    simp only [Prod.mk.injEq] at h1
    obtain ⟨rfl, rfl, rfl⟩ := h1
    exact Or.inl ⟨rfl, rfl, hN⟩

/-- what a reader of parts leaves -/
def ResQ (w0 : World) (gm gr : Nat) (bv : Value) (q : Int) (r : Except (Int × Int) (Md × Nat)) (x : Ending) (w' : World) : Prop := x = .returned (.tuple #[]) ∧ match r with
  | .error p => ¬ p.1 = 0 ∧ ∃ (a : Nat) (C F X : Value) (m : Md) (V : Nat → List Value), RdQ w0 w' gm gr bv a p.1 p.2 C F X m V
  | .ok (m, a) => ∃ (C F X : Value) (V : Nat → List Value), RdQ w0 w' gm gr bv a 0 q C F X m V

set_option maxRecDepth 100000 in
set_option maxHeartbeats 4000000 in
theorem funcs_q (w0 : World) (gm gr : Nat) (bo : Option Addr) (e bc : Nat) (a : Nat) (q : Int) (C F X : Value) (m : Md) (V : Nat → List Value) (bs : List Int) (w : World) (h : RdQ w0 w gm gr (.slice bo e bc) a 0 q C F X m V) (hy : Row8 w0 bo e bc bs) (hg : w0.heap.size ≤ gm) (hm : bc ≤ maxLen) (hl : m.fs.length ≤ 24) :
    Calls Try.prog 26 #[.pointer (some ⟨gr, 0, none⟩), .pointer (some ⟨gm, 0, none⟩)] w fun x w' => ResQ w0 gm gr (.slice bo e bc) q (rdL bs 24 (rdF bs) m a) x w' := by
  have C1 := hide (number_u gr bo e bc a 0 q 24 bs w h.rd (h.src hy hg hm) (by omega) (by omega))
  have HY := hide hy
  have H0 := hide h
  have hst : ∃ n : Nat, (numQ bs 24 (a, 0, q)).1 = (n : Int) ∧ n ≤ 24 ∧ (((numQ bs 24 (a, 0, q)).2.2.1 = 0 ∧ (numQ bs 24 (a, 0, q)).2.2.2 = q ∧ rdN (rdF bs) n m (numQ bs 24 (a, 0, q)).2.1 = rdL bs 24 (rdF bs) m a) ∨ (¬ (numQ bs 24 (a, 0, q)).2.2.1 = 0 ∧ rdL bs 24 (rdF bs) m a = .error ((numQ bs 24 (a, 0, q)).2.2.1, (numQ bs 24 (a, 0, q)).2.2.2))) := by
    unfold rdL numQ
    rw [if_neg (by simp)]
    dsimp only
    cases h1 : rdNo bs a 24 92 with
    | error c =>
      have k1 : ¬ c = 0 := by have := no_code h1; omega
      exact ⟨0, rfl, by omega, Or.inr ⟨k1, rfl⟩⟩
    | ok r1 =>
      obtain ⟨nI, a1⟩ := r1
      obtain ⟨n, rfl, hn⟩ : ∃ n : Nat, nI = (n : Int) ∧ n ≤ 24 := by
        unfold rdNo at h1
        split at h1
        · cases h1
        · rename_i h0
          split at h1
          · cases h1
          · rename_i h2
            simp only [Except.ok.injEq, Prod.mk.injEq] at h1
            have e0 : uintAt bs (a : Int) = ((uintAt bs (a : Int)).1, (uintAt bs (a : Int)).2.1, 0) := by
              have : (uintAt bs (a : Int)).2.2 = 0 := by simpa using h0
              rw [← this]
            have := (uint_nat hy.small e0).1
            exact ⟨nI.toNat, by omega, by omega⟩
      exact ⟨n, rfl, hn, Or.inl ⟨rfl, rfl, rfl⟩⟩
  obtain ⟨R, hR⟩ : ∃ R, rdL bs 24 (rdF bs) m a = R := ⟨_, rfl⟩
  rw [hR] at hst ⊢
  generalize numQ bs 24 (a, 0, q) = s0 at *
  obtain ⟨n0, a1, f1, q1⟩ := s0
  dsimp only at *
  obtain ⟨n, rfl, hn, hst⟩ := hst
  have HST := hide hst
  clear h hy hR hst
  go_enter Try.func26, Try.ntmps26
  go_wp2_with fail
  refine (unhide C1).mono ?_
  rintro x u1 ⟨rfl, r1, b1⟩
  have R1 := hide ((unhide H0).beside b1 r1)
  clear r1 b1 C1 H0
  go_wp2_with fail
  go_loopw [5] (fun x wr => ∃ (i : Nat) (m' : Md) (a' : Nat) (f' q' : Int) (C' F' X' : Value) (V' : Nat → List Value), x = .int .i64 (i : Int) ∧ Hid (i ≤ n) ∧ Hid (RdQ w0 wr gm gr (.slice bo e bc) a' f' q' C' F' X' m' V') ∧ Hid (m'.fs.length ≤ 24 + i) ∧ Hid ((f' = 0 ∧ q' = q ∧ rdN (rdF bs) (n - i) m' a' = R) ∨ (¬ f' = 0 ∧ R = .error (f', q')))) (fun x _ => n - (intOf x).toNat)
  case atStart => exact ⟨0, m, a1, f1, q1, C, F, X, V, rfl, hide (by omega), R1, hide (by omega), HST⟩
  case round =>
    clear R1 HST
    obtain ⟨i, m', a', f', q', C', F', X', V', rfl, HI, HM, HL, HS⟩ := hrel
    obtain ⟨d0, d1, d2, d3, _, _, _, _⟩ := (unhide HM).rd.cells
    by_cases hlt : i < n
    · have j1 : (i : Int) < (n : Int) := by omega
      by_cases hf : f' = 0
      · -- ROUND
        subst hf
        have hN : q' = q ∧ rdN (rdF bs) (n - i) m' a' = R := by
          rcases unhide HS with h | h
          · exact h.2
          · exact absurd rfl h.1
        have hEQ := fnQ_eq bs m' a' q'
        unfold fnQ at hEQ
        dsimp only at hEQ
        have X0 := Bx.start (unhide HM) 53 #[.int .i64 0, .int .i64 0, .int .i64 0, .string ⟨#[]⟩]
        obtain ⟨gb, hgb⟩ : ∃ gb, wr.heap.size = gb := ⟨_, rfl⟩
        obtain ⟨v0, hv0⟩ : ∃ v0, wr.alloc (.cells #[.int .i64 0, .int .i64 0, .int .i64 0, .string ⟨#[]⟩] 53) = v0 := ⟨_, rfl⟩
        rw [hv0, hgb] at X0
        have HV0 := hide hv0
        have HGB := hide hgb
        have C1 := hide (number_u gr bo e bc a' 0 q' 8 bs v0 X0.rd ((X0.made (unhide HM)).src (unhide HY) hg hm) (by omega) (by omega))
        generalize numQ bs 8 (a', 0, q') = s1 at *
        obtain ⟨p1, b1, f1', q1'⟩ := s1
        dsimp only at C1 hEQ
        have Y0 := hide X0
        have HEQ := hide hEQ
        have HN := hide hN
        clear X0 hv0 hgb hEQ hN
        go_wp2_with fail
        rw [unhide HV0, unhide HGB]
        refine (unhide C1).mono ?_
        rintro x v1 ⟨rfl, r1, bb1⟩
        have X1 := (unhide Y0).call r1 bb1
        obtain ⟨k0, k1, k2, k3⟩ := row_cell4 X1.box
        have z0 := frozen_of_row v1 gb 0 _ _ X1.box
        have X1' := X1.store 0 (.int .i64 p1) rfl
        have e1 := X1'.rd.cells.2.1
        have C2 := hide (number_u gr bo e bc b1 f1' q1' 32 bs _ X1'.rd ((X1'.made (unhide HM)).src (unhide HY) hg hm) (by omega) (by omega))
        have hEQ := unhide HEQ
        generalize numQ bs 32 (b1, f1', q1') = s2 at *
        obtain ⟨l2, b2, f2', q2'⟩ := s2
        dsimp only at C2 hEQ
        have Y1 := hide X1'
        have HEQ2 := hide hEQ
        clear X1 X1' r1 bb1 C1 hEQ HEQ Y0 d0 d1 d2 d3
        go_wp2_with fail
        refine (unhide C2).mono ?_
        rintro x v2 ⟨rfl, r2, bb2⟩
        have X2 := (unhide Y1).call r2 bb2
        clear k0 k1 k2 k3 z0 e1
        obtain ⟨k0, k1, k2, k3⟩ := row_cell4 X2.box
        have z0 := frozen_of_row v2 gb 1 _ _ X2.box
        have X2' := X2.store 1 (.int .i64 l2) rfl
        obtain ⟨e0, e1, _, _⟩ := row_cell4 X2'.box
        have Y2 := hide X2'
        clear X2 X2' r2 bb2 C2 Y1
        by_cases hlp : l2 < p1
        · have CW := hide (wrong_u gr (.slice bo e bc) b2 f2' q2' 90 b1 _ (unhide Y2).rd)
          have hEQ := unhide HEQ2
          rw [if_pos hlp] at hEQ
          generalize wrQ 90 (b1 : Int) (b2, f2', q2') = s3 at *
          obtain ⟨b3, f3', q3'⟩ := s3
          dsimp only at CW hEQ
          clear HEQ2
          go_wp2_with fail
          refine (unhide CW).mono ?_
          rintro x v3 ⟨rfl, r3, bb3⟩
          have Y3 := hide ((unhide Y2).call r3 bb3)
          clear r3 bb3 CW Y2 e0 e1
          have C4 := hide (number_u gr bo e bc b3 f3' q3' 40 bs _ (unhide Y3).rd (((unhide Y3).made (unhide HM)).src (unhide HY) hg hm) (by omega) (by omega))
          generalize numQ bs 40 (b3, f3', q3') = s4 at *
          obtain ⟨s4, b4, f4', q4'⟩ := s4
          dsimp only at C4 hEQ
          have HEQ4 := hide hEQ
          clear hEQ
          go_wp2_with fail
          refine (unhide C4).mono ?_
          rintro x v4 ⟨rfl, r4, bb4⟩
          have X4 := (unhide Y3).call r4 bb4
          clear k0 k1 k2 k3 z0
          obtain ⟨k0, k1, k2, k3⟩ := row_cell4 X4.box
          have z0 := frozen_of_row v4 gb 2 _ _ X4.box
          have X4' := X4.store 2 (.int .i64 s4) rfl
          have C5 := hide (text_u gr bo e bc b4 f4' q4' 4000 bs _ X4'.rd ((X4'.made (unhide HM)).src (unhide HY) hg hm) (by omega) (by omega))
          have hEQ := unhide HEQ4
          generalize txQ bs 4000 (b4, f4', q4') = s5 at *
          obtain ⟨t5, b5, f5', q5'⟩ := s5
          dsimp only at C5 hEQ
          have HEQ5 := hide hEQ
          have Y4 := hide X4'
          clear X4 X4' r4 bb4 C4 hEQ HEQ4 Y3
          go_wp2_with fail
          refine (unhide C5).mono ?_
          rintro x v5 ⟨rfl, r5, bb5⟩
          have X5 := (unhide Y4).call r5 bb5
          clear k0 k1 k2 k3 z0
          obtain ⟨k0, k1, k2, k3⟩ := row_cell4 X5.box
          have z0 := frozen_of_row v5 gb 3 _ _ X5.box
          have X5' := X5.store 3 (.string t5) rfl
          have R5 := X5'.made (unhide HM)
          obtain ⟨v6, hv6⟩ : ∃ v6, v5.setCell ⟨gb, 3, none⟩ (.string t5) = v6 := ⟨_, rfl⟩
          rw [hv6] at R5 X5'
          have z3 := k3
          clear k0 k1 k2 k3
          obtain ⟨y0, y1, y2⟩ := row_cell3 R5.box
          obtain ⟨k0, k1, k2, k3⟩ := row_cell4 X5'.box
          obtain ⟨i0, hi, hz0, hz1, hz2⟩ := info_parts infoFn
          obtain ⟨nF, hnF⟩ : ∃ nF, m'.fs.length = nF := ⟨_, rfl⟩
          have hOw : v6.ownsRow (gr + 1) 53 4 F' nF (m'.fs.flatMap fnV) := by rw [← hnF]; exact R5.ownF
          have HOw := hide hOw
          have hbs : gr + 1 ≤ v6.heap.size := R5.lt
          have hn100 : nF ≤ 48 := by have := unhide HL; omega
          have HNF := hide hnF
          have H5 := hide R5
          have fz : ∀ F5 w5, Hid (w5.ownsRow (gr + 1) 53 4 F5 (nF + 1) (m'.fs.flatMap fnV ++ fnV (p1, l2, s4, t5)) ∧ Grew v6 w5 F' F5) → w5.frozen? ⟨gm, 1, none⟩ = false ∧ w5.cell? ⟨gm, 1, none⟩ = some F' := fun F5 w5 HH => by
            have hb := ((unhide HH).2.far (lt_of_row (unhide H5).box) (fun e => by have := ((unhide HOw).lt gm e.symm).1; have := (unhide H5).two; omega)).trans (unhide H5).box
            exact ⟨frozen_of_row w5 gm 1 _ _ hb, (row_cell3 hb).2.1⟩
          have HFZ := hide fz
          clear R5 C5 hOw hnF fz X5 X5' r5 bb5 Y4
          have HKB := hide (And.intro y1 (And.intro k0 (And.intro k1 (And.intro k2 k3))))
          go_upto_region 12 with fail
          clear y0 y1 y2 k0 k1 k2 k3 z0 z3
          have d3 : v6.drew.cell? ⟨gm, 1, none⟩ = some F' ∧ v6.drew.cell? ⟨gb, 0, none⟩ = some (.int .i64 p1) ∧ v6.drew.cell? ⟨gb, 1, none⟩ = some (.int .i64 l2) ∧ v6.drew.cell? ⟨gb, 2, none⟩ = some (.int .i64 s4) ∧ v6.drew.cell? ⟨gb, 3, none⟩ = some (.string t5) := unhide HKB
          refine till_begin (S := fun w' => w'.cell? ⟨gm, 1, none⟩ = some F' ∧ w'.cell? ⟨gb, 0, none⟩ = some (.int .i64 p1) ∧ w'.cell? ⟨gb, 1, none⟩ = some (.int .i64 l2) ∧ w'.cell? ⟨gb, 2, none⟩ = some (.int .i64 s4) ∧ w'.cell? ⟨gb, 3, none⟩ = some (.string t5)) 10 (by kernel_rfl) ?_
          refine till_take 0 (v := .pointer (some ⟨gm, 0, none⟩)) (some 46) rfl rfl rfl (by kernel_rfl) (by kernel_rfl) (by kernel_rfl) (by kernel_rfl) (fun _ _ _ h => h) (Or.inl ⟨by rfl, fun u s0 => by obtain ⟨t0, t1, t2, t3, t4⟩ := s0; go_simp⟩) d3 ?_
          simp only [Act.put, List.setIfInBounds_toArray, List.set_cons_zero, List.set_cons_succ]
          refine till_take 1 (v := .pointer (some ⟨gm, 0, none⟩)) (some 47) rfl rfl rfl (by kernel_rfl) (by kernel_rfl) (by kernel_rfl) (by kernel_rfl) (fun _ _ _ h => h) (Or.inl ⟨by rfl, fun u s0 => by obtain ⟨t0, t1, t2, t3, t4⟩ := s0; go_simp⟩) d3 ?_
          simp only [Act.put, List.setIfInBounds_toArray, List.set_cons_zero, List.set_cons_succ]
          refine till_take 2 (v := .pointer (some ⟨gm, 0, none⟩)) (some 48) rfl rfl rfl (by kernel_rfl) (by kernel_rfl) (by kernel_rfl) (by kernel_rfl) (fun _ _ _ h => h) (Or.inl ⟨by rfl, fun u s0 => by obtain ⟨t0, t1, t2, t3, t4⟩ := s0; go_simp⟩) d3 ?_
          simp only [Act.put, List.setIfInBounds_toArray, List.set_cons_zero, List.set_cons_succ]
          refine till_take 3 (v := .pointer (some ⟨gm, 1, none⟩)) (some 49) rfl rfl rfl (by kernel_rfl) (by kernel_rfl) (by kernel_rfl) (by kernel_rfl) (fun _ _ _ h => h) (Or.inl ⟨by rfl, fun u s0 => by obtain ⟨t0, t1, t2, t3, t4⟩ := s0; go_simp⟩) d3 ?_
          simp only [Act.put, List.setIfInBounds_toArray, List.set_cons_zero, List.set_cons_succ]
          refine till_take 4 (v := F') (some 50) rfl rfl rfl (by kernel_rfl) (by kernel_rfl) (by kernel_rfl) (by kernel_rfl) (fun _ _ _ h => h) (Or.inl ⟨by rfl, fun u s0 => by obtain ⟨t0, t1, t2, t3, t4⟩ := s0; go_simp⟩) d3 ?_
          simp only [Act.put, List.setIfInBounds_toArray, List.set_cons_zero, List.set_cons_succ]
          refine till_take 5 (v := .agg #[.int .i64 p1, .int .i64 l2, .int .i64 s4, .string t5]) (some 51) rfl rfl rfl (by kernel_rfl) (by kernel_rfl) (by kernel_rfl) (by kernel_rfl) (fun _ _ _ h => h) (Or.inl ⟨by rfl, fun u s0 => by obtain ⟨t0, t1, t2, t3, t4⟩ := s0; go_simp⟩) d3 ?_
          simp only [Act.put, List.setIfInBounds_toArray, List.set_cons_zero, List.set_cons_succ]
          refine till_one 6 (by kernel_rfl) rfl (fun K hK => ?_)
          go_simp
          obtain ⟨w6, hw6⟩ : ∃ w6, (v6.alloc (.cells #[.int .i64 p1, .int .i64 l2, .int .i64 s4, .string t5] 53)).drew = w6 := ⟨_, rfl⟩
          have X6 : Below v6.heap.size v6 w6 := by rw [← hw6]; exact ((Below.refl _ _).alloc (Nat.le_refl _) _).drew
          have at6 : w6.heap[v6.heap.size]? = some (.cells #[.int .i64 p1, .int .i64 l2, .int .i64 s4, .string t5] 53 (0, 0)) := by rw [← hw6]; exact heap_alloc_new v6 _
          have sz6 : w6.heap.size = v6.heap.size + 1 := by rw [← hw6]; show (v6.alloc _).heap.size = _; simp
          rw [hw6]
          have d6 : w6.cell? ⟨gm, 1, none⟩ = some F' ∧ w6.cell? ⟨gb, 0, none⟩ = some (.int .i64 p1) ∧ w6.cell? ⟨gb, 1, none⟩ = some (.int .i64 l2) ∧ w6.cell? ⟨gb, 2, none⟩ = some (.int .i64 s4) ∧ w6.cell? ⟨gb, 3, none⟩ = some (.string t5) := by
            obtain ⟨t0, t1, t2, t3, t4⟩ := unhide HKB
            exact ⟨cell_later X6 t0, cell_later X6 t1, cell_later X6 t2, cell_later X6 t3, cell_later X6 t4⟩
          have HR6 := hide ((unhide H5).later X6)
          have HOw6 : Hid (w6.ownsRow (gr + 1) 53 4 F' nF (m'.fs.flatMap fnV)) := hide (by rw [← unhide HNF]; exact (unhide HR6).ownF)
          have hbs6 : gr + 1 ≤ w6.heap.size := by omega
          obtain ⟨h5s, hh5s⟩ : ∃ h5s, v6.heap.size = h5s := ⟨_, rfl⟩
          rw [hh5s] at at6 sz6 ⊢
          refine hK.out _ _ (Or.inr d6) ?_
          clear hK K hw6 X6 d3 hh5s hbs
          try simp only [Act.put, List.setIfInBounds_toArray, List.set_cons_zero, List.set_cons_succ]
          refine till_one 7 (by kernel_rfl) rfl (fun K hK => ?_)
          refine step_append_lies _ (by rfl) _ _ 25 (by rfl) (gr + 1) 53 i0 (.agg #[.int .i64 0, .int .i64 0, .int .i64 0, .string ⟨#[]⟩]) 4 40 Try.underlying25 hi hz0 hz1 hz2 rfl (by omega) F' nF (m'.fs.flatMap fnV) (by rfl) (unhide HOw6) ⟨h5s, 0, none⟩ 1 1 [.int .i64 p1, .int .i64 l2, .int .i64 s4, .string t5] (by rfl) (by rfl) (World.news_of_block at6) (by simp [Value.oneCell']) (by omega) (by unfold maxLen; omega) (by omega) hbs6 _ rfl ?_
          intro g7 cap7 w7 hown7 hgrow7 hat7 hlt7
          change K (Act.put _ (some 53) _) w7
          have frm : some gm ≠ F'.ownBlock := fun e => by have := ((unhide HOw).lt gm e.symm).1; have := (unhide H5).two; omega
          have frb : some gb ≠ F'.ownBlock := fun e => by have := ((unhide HM).ownF.lt gb e.symm).2; have := unhide HGB; omega
          have cf : ∀ g o x, some g ≠ F'.ownBlock → w6.cell? ⟨g, o, none⟩ = some x → w7.cell? ⟨g, o, none⟩ = some x := fun g o x hn hc => (hgrow7.cell_far ⟨g, o, none⟩ (World.block_lt_of_cell? _ _ (by rw [hc])) hn).trans hc
          have d7 : w7.cell? ⟨gm, 1, none⟩ = some F' ∧ w7.cell? ⟨gb, 0, none⟩ = some (.int .i64 p1) ∧ w7.cell? ⟨gb, 1, none⟩ = some (.int .i64 l2) ∧ w7.cell? ⟨gb, 2, none⟩ = some (.int .i64 s4) ∧ w7.cell? ⟨gb, 3, none⟩ = some (.string t5) := by
            obtain ⟨t0, t1, t2, t3, t4⟩ := d6
            exact ⟨cf _ _ _ frm t0, cf _ _ _ frb t1, cf _ _ _ frb t2, cf _ _ _ frb t3, cf _ _ _ frb t4⟩
          have f7 : w7.frozen? ⟨gm, 1, none⟩ = false := (hgrow7.frozen_far ⟨gm, 1, none⟩ (lt_of_row (unhide HR6).box) frm).trans (frozen_of_row w6 gm 1 _ _ (unhide HR6).box)
          have H9 := hide ((unhide HR6).pushF (F' := .slice (some ⟨g7, 0, none⟩) (nF + 1) cap7) (f := (p1, l2, s4, t5)) (by rw [unhide HNF]; exact hown7) ⟨hgrow7, fun b hb => by
            have e : g7 = b := by simpa [Value.ownBlock] using hb
            rw [← e]
            rcases hat7 with h | h
            · exact Or.inl h
            · exact Or.inr (Nat.le_of_eq h.symm)⟩)
          refine hK.out _ _ (Or.inr d7) ?_
          have y7 := d7.1
          clear hK K hown7 hgrow7 hat7 hlt7 d6 cf
          try simp only [Act.put, List.setIfInBounds_toArray, List.set_cons_zero, List.set_cons_succ]
          refine till_one 8 (by kernel_rfl) rfl (fun K hK => ?_)
          go_simp
          refine hK.out _ _ (Or.inr d7) ?_
          clear hK K
          try simp only [Act.put, List.setIfInBounds_toArray, List.set_cons_zero, List.set_cons_succ]
          refine till_one 9 (by kernel_rfl) rfl (fun K hK => ?_)
          go_simp
          refine hK.out _ _ (Or.inr d7) ?_
          clear hK K
          try simp only [Act.put, List.setIfInBounds_toArray, List.set_cons_zero, List.set_cons_succ]
          refine till_one 10 (by kernel_rfl) rfl (fun K hK => ?_)
          go_simp
          refine hK.out _ _ (Or.inl rfl) ?_
          clear hK K
          try simp only [Act.put, List.setIfInBounds_toArray, List.set_cons_zero, List.set_cons_succ]
          refine till_done (by kernel_rfl) ?_ _
          have HS9 := hide (next_q (m2 := ⟨m'.cs, m'.fs ++ [(p1, l2, s4, t5)], m'.xs⟩) hlt (unhide HN) (unhide HEQ5))
          have HL9 : Hid ((m'.fs ++ [(p1, l2, s4, t5)]).length ≤ 24 + (i + 1)) := hide (by rw [List.length_append, List.length_singleton]; have := unhide HL; omega)
          have HI9 : Hid (i + 1 ≤ n) := hide (by omega)
          clear d7 y7
          go_wp2_with fail
          go_roundw
          case rel => exact ⟨i + 1, ⟨m'.cs, m'.fs ++ [(p1, l2, s4, t5)], m'.xs⟩, b5, f5', q5', C', _, X', V', by go_num, HI9, H9, HL9, HS9⟩
          case measure => have := unhide HI9; simp [intOf]; omega
        · have hEQ := unhide HEQ2
          rw [if_neg hlp] at hEQ
          clear HEQ2
          have C4 := hide (number_u gr bo e bc b2 f2' q2' 40 bs _ (unhide Y2).rd (((unhide Y2).made (unhide HM)).src (unhide HY) hg hm) (by omega) (by omega))
          generalize numQ bs 40 (b2, f2', q2') = s4 at *
          obtain ⟨s4, b4, f4', q4'⟩ := s4
          dsimp only at C4 hEQ
          have HEQ4 := hide hEQ
          clear hEQ
          go_wp2_with fail
          refine (unhide C4).mono ?_
          rintro x v4 ⟨rfl, r4, bb4⟩
          have X4 := (unhide Y2).call r4 bb4
          clear k0 k1 k2 k3 z0
          obtain ⟨k0, k1, k2, k3⟩ := row_cell4 X4.box
          have z0 := frozen_of_row v4 gb 2 _ _ X4.box
          have X4' := X4.store 2 (.int .i64 s4) rfl
          have C5 := hide (text_u gr bo e bc b4 f4' q4' 4000 bs _ X4'.rd ((X4'.made (unhide HM)).src (unhide HY) hg hm) (by omega) (by omega))
          have hEQ := unhide HEQ4
          generalize txQ bs 4000 (b4, f4', q4') = s5 at *
          obtain ⟨t5, b5, f5', q5'⟩ := s5
          dsimp only at C5 hEQ
          have HEQ5 := hide hEQ
          have Y4 := hide X4'
          clear X4 X4' r4 bb4 C4 hEQ HEQ4 Y2
          go_wp2_with fail
          refine (unhide C5).mono ?_
          rintro x v5 ⟨rfl, r5, bb5⟩
          have X5 := (unhide Y4).call r5 bb5
          clear k0 k1 k2 k3 z0
          obtain ⟨k0, k1, k2, k3⟩ := row_cell4 X5.box
          have z0 := frozen_of_row v5 gb 3 _ _ X5.box
          have X5' := X5.store 3 (.string t5) rfl
          have R5 := X5'.made (unhide HM)
          obtain ⟨v6, hv6⟩ : ∃ v6, v5.setCell ⟨gb, 3, none⟩ (.string t5) = v6 := ⟨_, rfl⟩
          rw [hv6] at R5 X5'
          have z3 := k3
          clear k0 k1 k2 k3
          obtain ⟨y0, y1, y2⟩ := row_cell3 R5.box
          obtain ⟨k0, k1, k2, k3⟩ := row_cell4 X5'.box
          obtain ⟨i0, hi, hz0, hz1, hz2⟩ := info_parts infoFn
          obtain ⟨nF, hnF⟩ : ∃ nF, m'.fs.length = nF := ⟨_, rfl⟩
          have hOw : v6.ownsRow (gr + 1) 53 4 F' nF (m'.fs.flatMap fnV) := by rw [← hnF]; exact R5.ownF
          have HOw := hide hOw
          have hbs : gr + 1 ≤ v6.heap.size := R5.lt
          have hn100 : nF ≤ 48 := by have := unhide HL; omega
          have HNF := hide hnF
          have H5 := hide R5
          have fz : ∀ F5 w5, Hid (w5.ownsRow (gr + 1) 53 4 F5 (nF + 1) (m'.fs.flatMap fnV ++ fnV (p1, l2, s4, t5)) ∧ Grew v6 w5 F' F5) → w5.frozen? ⟨gm, 1, none⟩ = false ∧ w5.cell? ⟨gm, 1, none⟩ = some F' := fun F5 w5 HH => by
            have hb := ((unhide HH).2.far (lt_of_row (unhide H5).box) (fun e => by have := ((unhide HOw).lt gm e.symm).1; have := (unhide H5).two; omega)).trans (unhide H5).box
            exact ⟨frozen_of_row w5 gm 1 _ _ hb, (row_cell3 hb).2.1⟩
          have HFZ := hide fz
          clear R5 C5 hOw hnF fz X5 X5' r5 bb5 Y4
          have HKB := hide (And.intro y1 (And.intro k0 (And.intro k1 (And.intro k2 k3))))
          go_upto_region 12 with fail
          clear y0 y1 y2 k0 k1 k2 k3 z0 z3
          have d3 : v6.drew.cell? ⟨gm, 1, none⟩ = some F' ∧ v6.drew.cell? ⟨gb, 0, none⟩ = some (.int .i64 p1) ∧ v6.drew.cell? ⟨gb, 1, none⟩ = some (.int .i64 l2) ∧ v6.drew.cell? ⟨gb, 2, none⟩ = some (.int .i64 s4) ∧ v6.drew.cell? ⟨gb, 3, none⟩ = some (.string t5) := unhide HKB
          refine till_begin (S := fun w' => w'.cell? ⟨gm, 1, none⟩ = some F' ∧ w'.cell? ⟨gb, 0, none⟩ = some (.int .i64 p1) ∧ w'.cell? ⟨gb, 1, none⟩ = some (.int .i64 l2) ∧ w'.cell? ⟨gb, 2, none⟩ = some (.int .i64 s4) ∧ w'.cell? ⟨gb, 3, none⟩ = some (.string t5)) 10 (by kernel_rfl) ?_
          refine till_take 0 (v := .pointer (some ⟨gm, 0, none⟩)) (some 46) rfl rfl rfl (by kernel_rfl) (by kernel_rfl) (by kernel_rfl) (by kernel_rfl) (fun _ _ _ h => h) (Or.inl ⟨by rfl, fun u s0 => by obtain ⟨t0, t1, t2, t3, t4⟩ := s0; go_simp⟩) d3 ?_
          simp only [Act.put, List.setIfInBounds_toArray, List.set_cons_zero, List.set_cons_succ]
          refine till_take 1 (v := .pointer (some ⟨gm, 0, none⟩)) (some 47) rfl rfl rfl (by kernel_rfl) (by kernel_rfl) (by kernel_rfl) (by kernel_rfl) (fun _ _ _ h => h) (Or.inl ⟨by rfl, fun u s0 => by obtain ⟨t0, t1, t2, t3, t4⟩ := s0; go_simp⟩) d3 ?_
          simp only [Act.put, List.setIfInBounds_toArray, List.set_cons_zero, List.set_cons_succ]
          refine till_take 2 (v := .pointer (some ⟨gm, 0, none⟩)) (some 48) rfl rfl rfl (by kernel_rfl) (by kernel_rfl) (by kernel_rfl) (by kernel_rfl) (fun _ _ _ h => h) (Or.inl ⟨by rfl, fun u s0 => by obtain ⟨t0, t1, t2, t3, t4⟩ := s0; go_simp⟩) d3 ?_
          simp only [Act.put, List.setIfInBounds_toArray, List.set_cons_zero, List.set_cons_succ]
          refine till_take 3 (v := .pointer (some ⟨gm, 1, none⟩)) (some 49) rfl rfl rfl (by kernel_rfl) (by kernel_rfl) (by kernel_rfl) (by kernel_rfl) (fun _ _ _ h => h) (Or.inl ⟨by rfl, fun u s0 => by obtain ⟨t0, t1, t2, t3, t4⟩ := s0; go_simp⟩) d3 ?_
          simp only [Act.put, List.setIfInBounds_toArray, List.set_cons_zero, List.set_cons_succ]
          refine till_take 4 (v := F') (some 50) rfl rfl rfl (by kernel_rfl) (by kernel_rfl) (by kernel_rfl) (by kernel_rfl) (fun _ _ _ h => h) (Or.inl ⟨by rfl, fun u s0 => by obtain ⟨t0, t1, t2, t3, t4⟩ := s0; go_simp⟩) d3 ?_
          simp only [Act.put, List.setIfInBounds_toArray, List.set_cons_zero, List.set_cons_succ]
          refine till_take 5 (v := .agg #[.int .i64 p1, .int .i64 l2, .int .i64 s4, .string t5]) (some 51) rfl rfl rfl (by kernel_rfl) (by kernel_rfl) (by kernel_rfl) (by kernel_rfl) (fun _ _ _ h => h) (Or.inl ⟨by rfl, fun u s0 => by obtain ⟨t0, t1, t2, t3, t4⟩ := s0; go_simp⟩) d3 ?_
          simp only [Act.put, List.setIfInBounds_toArray, List.set_cons_zero, List.set_cons_succ]
          refine till_one 6 (by kernel_rfl) rfl (fun K hK => ?_)
          go_simp
          obtain ⟨w6, hw6⟩ : ∃ w6, (v6.alloc (.cells #[.int .i64 p1, .int .i64 l2, .int .i64 s4, .string t5] 53)).drew = w6 := ⟨_, rfl⟩
          have X6 : Below v6.heap.size v6 w6 := by rw [← hw6]; exact ((Below.refl _ _).alloc (Nat.le_refl _) _).drew
          have at6 : w6.heap[v6.heap.size]? = some (.cells #[.int .i64 p1, .int .i64 l2, .int .i64 s4, .string t5] 53 (0, 0)) := by rw [← hw6]; exact heap_alloc_new v6 _
          have sz6 : w6.heap.size = v6.heap.size + 1 := by rw [← hw6]; show (v6.alloc _).heap.size = _; simp
          rw [hw6]
          have d6 : w6.cell? ⟨gm, 1, none⟩ = some F' ∧ w6.cell? ⟨gb, 0, none⟩ = some (.int .i64 p1) ∧ w6.cell? ⟨gb, 1, none⟩ = some (.int .i64 l2) ∧ w6.cell? ⟨gb, 2, none⟩ = some (.int .i64 s4) ∧ w6.cell? ⟨gb, 3, none⟩ = some (.string t5) := by
            obtain ⟨t0, t1, t2, t3, t4⟩ := unhide HKB
            exact ⟨cell_later X6 t0, cell_later X6 t1, cell_later X6 t2, cell_later X6 t3, cell_later X6 t4⟩
          have HR6 := hide ((unhide H5).later X6)
          have HOw6 : Hid (w6.ownsRow (gr + 1) 53 4 F' nF (m'.fs.flatMap fnV)) := hide (by rw [← unhide HNF]; exact (unhide HR6).ownF)
          have hbs6 : gr + 1 ≤ w6.heap.size := by omega
          obtain ⟨h5s, hh5s⟩ : ∃ h5s, v6.heap.size = h5s := ⟨_, rfl⟩
          rw [hh5s] at at6 sz6 ⊢
          refine hK.out _ _ (Or.inr d6) ?_
          clear hK K hw6 X6 d3 hh5s hbs
          try simp only [Act.put, List.setIfInBounds_toArray, List.set_cons_zero, List.set_cons_succ]
          refine till_one 7 (by kernel_rfl) rfl (fun K hK => ?_)
          refine step_append_lies _ (by rfl) _ _ 25 (by rfl) (gr + 1) 53 i0 (.agg #[.int .i64 0, .int .i64 0, .int .i64 0, .string ⟨#[]⟩]) 4 40 Try.underlying25 hi hz0 hz1 hz2 rfl (by omega) F' nF (m'.fs.flatMap fnV) (by rfl) (unhide HOw6) ⟨h5s, 0, none⟩ 1 1 [.int .i64 p1, .int .i64 l2, .int .i64 s4, .string t5] (by rfl) (by rfl) (World.news_of_block at6) (by simp [Value.oneCell']) (by omega) (by unfold maxLen; omega) (by omega) hbs6 _ rfl ?_
          intro g7 cap7 w7 hown7 hgrow7 hat7 hlt7
          change K (Act.put _ (some 53) _) w7
          have frm : some gm ≠ F'.ownBlock := fun e => by have := ((unhide HOw).lt gm e.symm).1; have := (unhide H5).two; omega
          have frb : some gb ≠ F'.ownBlock := fun e => by have := ((unhide HM).ownF.lt gb e.symm).2; have := unhide HGB; omega
          have cf : ∀ g o x, some g ≠ F'.ownBlock → w6.cell? ⟨g, o, none⟩ = some x → w7.cell? ⟨g, o, none⟩ = some x := fun g o x hn hc => (hgrow7.cell_far ⟨g, o, none⟩ (World.block_lt_of_cell? _ _ (by rw [hc])) hn).trans hc
          have d7 : w7.cell? ⟨gm, 1, none⟩ = some F' ∧ w7.cell? ⟨gb, 0, none⟩ = some (.int .i64 p1) ∧ w7.cell? ⟨gb, 1, none⟩ = some (.int .i64 l2) ∧ w7.cell? ⟨gb, 2, none⟩ = some (.int .i64 s4) ∧ w7.cell? ⟨gb, 3, none⟩ = some (.string t5) := by
            obtain ⟨t0, t1, t2, t3, t4⟩ := d6
            exact ⟨cf _ _ _ frm t0, cf _ _ _ frb t1, cf _ _ _ frb t2, cf _ _ _ frb t3, cf _ _ _ frb t4⟩
          have f7 : w7.frozen? ⟨gm, 1, none⟩ = false := (hgrow7.frozen_far ⟨gm, 1, none⟩ (lt_of_row (unhide HR6).box) frm).trans (frozen_of_row w6 gm 1 _ _ (unhide HR6).box)
          have H9 := hide ((unhide HR6).pushF (F' := .slice (some ⟨g7, 0, none⟩) (nF + 1) cap7) (f := (p1, l2, s4, t5)) (by rw [unhide HNF]; exact hown7) ⟨hgrow7, fun b hb => by
            have e : g7 = b := by simpa [Value.ownBlock] using hb
            rw [← e]
            rcases hat7 with h | h
            · exact Or.inl h
            · exact Or.inr (Nat.le_of_eq h.symm)⟩)
          refine hK.out _ _ (Or.inr d7) ?_
          have y7 := d7.1
          clear hK K hown7 hgrow7 hat7 hlt7 d6 cf
          try simp only [Act.put, List.setIfInBounds_toArray, List.set_cons_zero, List.set_cons_succ]
          refine till_one 8 (by kernel_rfl) rfl (fun K hK => ?_)
          go_simp
          refine hK.out _ _ (Or.inr d7) ?_
          clear hK K
          try simp only [Act.put, List.setIfInBounds_toArray, List.set_cons_zero, List.set_cons_succ]
          refine till_one 9 (by kernel_rfl) rfl (fun K hK => ?_)
          go_simp
          refine hK.out _ _ (Or.inr d7) ?_
          clear hK K
          try simp only [Act.put, List.setIfInBounds_toArray, List.set_cons_zero, List.set_cons_succ]
          refine till_one 10 (by kernel_rfl) rfl (fun K hK => ?_)
          go_simp
          refine hK.out _ _ (Or.inl rfl) ?_
          clear hK K
          try simp only [Act.put, List.setIfInBounds_toArray, List.set_cons_zero, List.set_cons_succ]
          refine till_done (by kernel_rfl) ?_ _
          have HS9 := hide (next_q (m2 := ⟨m'.cs, m'.fs ++ [(p1, l2, s4, t5)], m'.xs⟩) hlt (unhide HN) (unhide HEQ5))
          have HL9 : Hid ((m'.fs ++ [(p1, l2, s4, t5)]).length ≤ 24 + (i + 1)) := hide (by rw [List.length_append, List.length_singleton]; have := unhide HL; omega)
          have HI9 : Hid (i + 1 ≤ n) := hide (by omega)
          clear d7 y7
          go_wp2_with fail
          go_roundw
          case rel => exact ⟨i + 1, ⟨m'.cs, m'.fs ++ [(p1, l2, s4, t5)], m'.xs⟩, b5, f5', q5', C', _, X', V', by go_num, HI9, H9, HL9, HS9⟩
          case measure => have := unhide HI9; simp [intOf]; omega
      -- ROUND END
      · have HR' := hide (show R = .error (f', q') by
          rcases unhide HS with h | h
          · exact absurd h.1 hf
          · exact h.2)
        go_wp2_with fail
        go_end0
        refine ⟨rfl, ?_⟩
        rw [unhide HR']
        exact ⟨hf, _, _, _, _, _, _, unhide HM⟩
    · have j1 : ¬ (i : Int) < (n : Int) := by omega
      have HI2 := hide (show n - i = 0 by omega)
      go_wp2_with fail
      go_end0
      refine ⟨rfl, ?_⟩
      rcases unhide HS with ⟨h1, h2, h3⟩ | ⟨h1, h2⟩
      · rw [unhide HI2, rdN] at h3
        rw [← h3]
        have := unhide HM
        rw [h1, h2] at this
        exact ⟨_, _, _, _, this⟩
      · rw [h2]
        exact ⟨h1, _, _, _, _, _, _, unhide HM⟩
end Go.Proofs.Ytfdnhpmldnmncaa

/-
  The walk of the document's own reader of constants (scrupleref09.reader.consts); conditions: the form's own reach.
-/
import Derived.Test.YtfdnhpmldnmncaaR37
namespace Go.Proofs.Ytfdnhpmldnmncaa
open Go.RowKit
set_option linter.unusedVariables false

set_option maxRecDepth 100000 in
set_option maxHeartbeats 4000000 in
theorem consts_q (w0 : World) (gm gr : Nat) (bo : Option Addr) (e bc : Nat) (a : Nat) (q : Int) (C F X : Value) (m : Md) (V : Nat → List Value) (bs : List Int) (w : World) (h : RdQ w0 w gm gr (.slice bo e bc) a 0 q C F X m V) (hy : Row8 w0 bo e bc bs) (hg : w0.heap.size ≤ gm) (hm : bc ≤ maxLen) (hl : m.cs.length ≤ 100) :
    Calls Try.prog 25 #[.pointer (some ⟨gr, 0, none⟩), .pointer (some ⟨gm, 0, none⟩)] w fun x w' => ResQ w0 gm gr (.slice bo e bc) q (rdL bs 100 (rdC bs) m a) x w' := by
  have C1 := hide (number_u gr bo e bc a 0 q 100 bs w h.rd (h.src hy hg hm) (by omega) (by omega))
  have HY := hide hy
  have H0 := hide h
  have hst : ∃ n : Nat, (numQ bs 100 (a, 0, q)).1 = (n : Int) ∧ n ≤ 100 ∧ (((numQ bs 100 (a, 0, q)).2.2.1 = 0 ∧ (numQ bs 100 (a, 0, q)).2.2.2 = q ∧ rdN (rdC bs) n m (numQ bs 100 (a, 0, q)).2.1 = rdL bs 100 (rdC bs) m a) ∨ (¬ (numQ bs 100 (a, 0, q)).2.2.1 = 0 ∧ rdL bs 100 (rdC bs) m a = .error ((numQ bs 100 (a, 0, q)).2.2.1, (numQ bs 100 (a, 0, q)).2.2.2))) := by
    unfold rdL numQ
    rw [if_neg (by simp)]
    dsimp only
    cases h1 : rdNo bs a 100 92 with
    | error c =>
      have k1 : ¬ c = 0 := by have := no_code h1; omega
      exact ⟨0, rfl, by omega, Or.inr ⟨k1, rfl⟩⟩
    | ok r1 =>
      obtain ⟨nI, a1⟩ := r1
      obtain ⟨n, rfl, hn⟩ : ∃ n : Nat, nI = (n : Int) ∧ n ≤ 100 := by
        unfold rdNo at h1
        split at h1
        · cases h1
        · rename_i h0
          split at h1
          · cases h1
          · rename_i h2
            simp only [Except.ok.injEq, Prod.mk.injEq] at h1
            have e0 : uintAt bs (a : Int) = ((uintAt bs (a : Int)).1, (uintAt bs (a : Int)).2.1, 0) := by
              have : (uintAt bs (a : Int)).2.2 = 0 := by simpa using h0
              rw [← this]
            have := (uint_nat hy.small e0).1
            exact ⟨nI.toNat, by omega, by omega⟩
      exact ⟨n, rfl, hn, Or.inl ⟨rfl, rfl, rfl⟩⟩
  obtain ⟨R, hR⟩ : ∃ R, rdL bs 100 (rdC bs) m a = R := ⟨_, rfl⟩
  rw [hR] at hst ⊢
  generalize numQ bs 100 (a, 0, q) = s0 at *
  obtain ⟨n0, a1, f1, q1⟩ := s0
  dsimp only at *
  obtain ⟨n, rfl, hn, hst⟩ := hst
  have HST := hide hst
  clear h hy hR hst
  go_enter Try.func25, Try.ntmps25
  go_wp2_with fail
  refine (unhide C1).mono ?_
  rintro x u1 ⟨rfl, r1, b1⟩
  have R1 := hide ((unhide H0).beside b1 r1)
  clear r1 b1 C1 H0
  go_wp2_with fail
  go_loopw [5] (fun x wr => ∃ (i : Nat) (m' : Md) (a' : Nat) (f' q' : Int) (C' F' X' : Value) (V' : Nat → List Value), x = .int .i64 (i : Int) ∧ Hid (i ≤ n) ∧ Hid (RdQ w0 wr gm gr (.slice bo e bc) a' f' q' C' F' X' m' V') ∧ Hid (m'.cs.length ≤ 100 + i) ∧ Hid ((f' = 0 ∧ q' = q ∧ rdN (rdC bs) (n - i) m' a' = R) ∨ (¬ f' = 0 ∧ R = .error (f', q')))) (fun x _ => n - (intOf x).toNat)
  case atStart => exact ⟨0, m, a1, f1, q1, C, F, X, V, rfl, hide (by omega), R1, hide (by omega), HST⟩
  case round =>
    clear R1 HST
    obtain ⟨i, m', a', f', q', C', F', X', V', rfl, HI, HM, HL, HS⟩ := hrel
    obtain ⟨d0, d1, d2, d3, _, _, _, _⟩ := (unhide HM).rd.cells
    by_cases hlt : i < n
    · have j1 : (i : Int) < (n : Int) := by omega
      by_cases hf : f' = 0
      · -- ROUND
        subst hf
        have hN : q' = q ∧ rdN (rdC bs) (n - i) m' a' = R := by
          rcases unhide HS with h | h
          · exact h.2
          · exact absurd rfl h.1
        have HN := hide hN
        obtain ⟨y, nx, c, hT, hc, hE⟩ : ∃ (y : Vl) (nx : Nat) (c : Int), (∀ u, Below wr.heap.size wr u → Calls Try.prog 45 #[.slice bo e bc, .int .i64 (a' : Int)] u fun e w' => TkR (fun u B x => IsQ u (fun b => B ≤ b ∧ b < u.heap.size) y x) (nx : Int) c u e w') ∧ (c = 0 ∨ c = 41 ∨ c = 42) ∧ rdC bs m' a' = (if c = 0 then .ok (⟨m'.cs ++ [y], m'.fs, m'.xs⟩, nx) else .error (if c = 42 then 92 else 91, (nx : Int))) := by
          have CT := fun u (hu : Below wr.heap.size wr u) => take_f bo e bc bs (a' : Int) u (((unhide HM).later hu).src (unhide HY) hg hm).row hm
          unfold rdC
          cases hT : takeR bs (a' : Int) with
          | error p =>
            obtain ⟨c, nx⟩ := p
            rw [hT] at CT
            have hc := take_codeM hT
            have hnx : 0 ≤ nx := (takeR_place (unhide HY).small hT).1
            dsimp only at hc
            refine ⟨.mk 0 0 ⟨#[]⟩ [] [], nx.toNat, c, fun u hu => (CT u hu).mono ?_, Or.inr hc, ?_⟩
            · rintro e5 w5 ⟨rfl, b5⟩
              exact ⟨0, 0, ⟨#[]⟩, none, none, 0, 0, 0, 0, by rw [Int.toNat_of_nonneg hnx], zero_isP _ _, b5⟩
            · rw [if_neg (by omega), Int.toNat_of_nonneg hnx]
          | ok p =>
            obtain ⟨v, nn⟩ := p
            rw [hT] at CT
            refine ⟨v, nn, 0, fun u hu => (CT u hu).mono ?_, Or.inl rfl, by rw [if_pos rfl]⟩
            rintro e5 w5 ⟨x5, rfl, p5, b5⟩
            obtain ⟨k5, n5, s5, l5, ks5, al5, ak5, cl5, ck5, _, rfl⟩ := p5.shape
            exact ⟨k5, n5, s5, al5, ak5, _, cl5, _, ck5, rfl, p5, b5⟩
        have CT := hide hT
        have HE := hide hE
        have S1 : Hid (∀ u, Below wr.heap.size wr u → u.cell? ⟨gr, 0, none⟩ = some (.slice bo e bc) ∧ u.cell? ⟨gr, 1, none⟩ = some (.int .i64 (a' : Int))) := hide (fun u hu => ⟨cell_later hu d0, cell_later hu d1⟩)
        obtain ⟨Y, hYd⟩ : ∃ Y : World → Nat → Value → Prop, (fun u B x => IsQ u (fun b => B ≤ b ∧ b < u.heap.size) y x) = Y := ⟨_, rfl⟩
        have HKY : Hid (KeepY Y) := hide (by rw [← hYd]; exact keepY_val y)
        have HYd := hide hYd
        rw [hYd] at CT
        clear hT hE hN hYd
        go_upto_region 4 with fail
        clear d0 d1 d2 d3
        go_cut [6, 7, 8] from 23 to 35 (fun y3 y4 y5 wx => ∃ (gb : Nat) (x0 x1 : Int) (x2 : ByteArray) (al ak : Option Addr) (ll cl mm ck : Nat), y3 = .pointer (some ⟨gb, 0, none⟩) ∧ y4 = .int .i64 nx ∧ y5 = .int .i64 c ∧ Hid (RcS Y wr wx gb (.int .i64 x0) (.int .i64 x1) (.string x2) (.slice al ll cl) (.slice ak mm ck)))
        case first =>
          refine till_begin (S := fun u => u.cell? ⟨gr, 0, none⟩ = some (.slice bo e bc) ∧ u.cell? ⟨gr, 1, none⟩ = some (.int .i64 (a' : Int))) 16 (by kernel_rfl) ?_
          obtain ⟨w2, hw2⟩ : ∃ w2, wr.drew = w2 := ⟨_, rfl⟩
          have HB2 : Hid (Below wr.heap.size wr w2) := hide (by rw [← hw2]; exact (Below.refl _ _).drew)
          rw [hw2]
          clear hw2
          refine till_take 0 (v := .pointer (some ⟨gr, 0, none⟩)) (some 24) rfl rfl rfl (by kernel_rfl) (by kernel_rfl) (by kernel_rfl) (by kernel_rfl) (fun _ _ _ h => h) (Or.inl ⟨by rfl, fun u hu => by obtain ⟨c1, c2⟩ := hu; go_simp⟩) (unhide S1 _ (unhide HB2)) ?_
          try simp only [Act.put, List.setIfInBounds_toArray, List.set_cons_zero, List.set_cons_succ]
          refine till_take 1 (v := .pointer (some ⟨gr, 0, none⟩)) (some 25) rfl rfl rfl (by kernel_rfl) (by kernel_rfl) (by kernel_rfl) (by kernel_rfl) (fun _ _ _ h => h) (Or.inl ⟨by rfl, fun u hu => by obtain ⟨c1, c2⟩ := hu; go_simp⟩) (unhide S1 _ (unhide HB2)) ?_
          try simp only [Act.put, List.setIfInBounds_toArray, List.set_cons_zero, List.set_cons_succ]
          refine till_take 2 (v := .pointer (some ⟨gr, 0, none⟩)) (some 26) rfl rfl rfl (by kernel_rfl) (by kernel_rfl) (by kernel_rfl) (by kernel_rfl) (fun _ _ _ h => h) (Or.inl ⟨by rfl, fun u hu => by obtain ⟨c1, c2⟩ := hu; go_simp⟩) (unhide S1 _ (unhide HB2)) ?_
          try simp only [Act.put, List.setIfInBounds_toArray, List.set_cons_zero, List.set_cons_succ]
          refine till_take 3 (v := .slice bo e bc) (some 27) rfl rfl rfl (by kernel_rfl) (by kernel_rfl) (by kernel_rfl) (by kernel_rfl) (fun _ _ _ h => h) (Or.inl ⟨by rfl, fun u hu => by obtain ⟨c1, c2⟩ := hu; go_simp⟩) (unhide S1 _ (unhide HB2)) ?_
          try simp only [Act.put, List.setIfInBounds_toArray, List.set_cons_zero, List.set_cons_succ]
          refine till_take 4 (v := .pointer (some ⟨gr, 0, none⟩)) (some 28) rfl rfl rfl (by kernel_rfl) (by kernel_rfl) (by kernel_rfl) (by kernel_rfl) (fun _ _ _ h => h) (Or.inl ⟨by rfl, fun u hu => by obtain ⟨c1, c2⟩ := hu; go_simp⟩) (unhide S1 _ (unhide HB2)) ?_
          try simp only [Act.put, List.setIfInBounds_toArray, List.set_cons_zero, List.set_cons_succ]
          refine till_take 5 (v := .pointer (some ⟨gr, 0, none⟩)) (some 29) rfl rfl rfl (by kernel_rfl) (by kernel_rfl) (by kernel_rfl) (by kernel_rfl) (fun _ _ _ h => h) (Or.inl ⟨by rfl, fun u hu => by obtain ⟨c1, c2⟩ := hu; go_simp⟩) (unhide S1 _ (unhide HB2)) ?_
          try simp only [Act.put, List.setIfInBounds_toArray, List.set_cons_zero, List.set_cons_succ]
          refine till_take 6 (v := .pointer (some ⟨gr, 1, none⟩)) (some 30) rfl rfl rfl (by kernel_rfl) (by kernel_rfl) (by kernel_rfl) (by kernel_rfl) (fun _ _ _ h => h) (Or.inl ⟨by rfl, fun u hu => by obtain ⟨c1, c2⟩ := hu; go_simp⟩) (unhide S1 _ (unhide HB2)) ?_
          try simp only [Act.put, List.setIfInBounds_toArray, List.set_cons_zero, List.set_cons_succ]
          refine till_take 7 (v := .int .i64 (a' : Int)) (some 31) rfl rfl rfl (by kernel_rfl) (by kernel_rfl) (by kernel_rfl) (by kernel_rfl) (fun _ _ _ h => h) (Or.inl ⟨by rfl, fun u hu => by obtain ⟨c1, c2⟩ := hu; go_simp⟩) (unhide S1 _ (unhide HB2)) ?_
          try simp only [Act.put, List.setIfInBounds_toArray, List.set_cons_zero, List.set_cons_succ]
          refine till_two 8 13 (by kernel_rfl) rfl rfl (fun K hK => ?_) (fun K hK => ?_)
          · go_simp
            refine (unhide CT w2 (unhide HB2)).mono ?_
            rintro e5 u ⟨x0, x1, x2, al, ak, ll, cl, mm, ck, rfl, y5, b5⟩
            have HB5 : Hid (Below wr.heap.size wr u) := hide ((unhide HB2).trans (b5.mono (unhide HB2).size))
            have HY5 := hide y5
            have HZ5 : Hid (wr.heap.size ≤ w2.heap.size) := hide (unhide HB2).size
            clear y5 b5
            go_wp2_with fail
            refine hK.out _ _ (Or.inr (unhide S1 _ (unhide HB5))) ?_
            clear hK K
            try simp only [Act.put, List.setIfInBounds_toArray, List.set_cons_zero, List.set_cons_succ]
            refine till_take 9 (v := .tuple #[.agg #[.int .i64 x0, .int .i64 x1, .string x2, .slice al ll cl, .slice ak mm ck], .int .i64 nx, .int .i64 c]) (some 23) rfl rfl rfl (by kernel_rfl) (by kernel_rfl) (by kernel_rfl) (by kernel_rfl) (fun _ _ _ h => h) (Or.inl ⟨by rfl, fun u hu => by obtain ⟨c1, c2⟩ := hu; go_simp⟩) (unhide S1 _ (unhide HB5)) ?_
            try simp only [Act.put, List.setIfInBounds_toArray, List.set_cons_zero, List.set_cons_succ]
            refine till_take 10 (v := .agg #[.int .i64 x0, .int .i64 x1, .string x2, .slice al ll cl, .slice ak mm ck]) (some 33) rfl rfl rfl (by kernel_rfl) (by kernel_rfl) (by kernel_rfl) (by kernel_rfl) (fun _ _ _ h => h) (Or.inl ⟨by rfl, fun u hu => by obtain ⟨c1, c2⟩ := hu; go_simp⟩) (unhide S1 _ (unhide HB5)) ?_
            try simp only [Act.put, List.setIfInBounds_toArray, List.set_cons_zero, List.set_cons_succ]
            refine till_take 11 (v := .int .i64 nx) (some 34) rfl rfl rfl (by kernel_rfl) (by kernel_rfl) (by kernel_rfl) (by kernel_rfl) (fun _ _ _ h => h) (Or.inl ⟨by rfl, fun u hu => by obtain ⟨c1, c2⟩ := hu; go_simp⟩) (unhide S1 _ (unhide HB5)) ?_
            try simp only [Act.put, List.setIfInBounds_toArray, List.set_cons_zero, List.set_cons_succ]
            refine till_take 12 (v := .int .i64 c) (some 35) rfl rfl rfl (by kernel_rfl) (by kernel_rfl) (by kernel_rfl) (by kernel_rfl) (fun _ _ _ h => h) (Or.inl ⟨by rfl, fun u hu => by obtain ⟨c1, c2⟩ := hu; go_simp⟩) (unhide S1 _ (unhide HB5)) ?_
            try simp only [Act.put, List.setIfInBounds_toArray, List.set_cons_zero, List.set_cons_succ]
            refine till_one 13 (by kernel_rfl) rfl (fun K hK => ?_)
            go_simp
            obtain ⟨gb, hgb⟩ : ∃ gb, u.heap.size = gb := ⟨_, rfl⟩
            obtain ⟨wb, hwb⟩ : ∃ wb, u.alloc (.cells #[.int .i64 0, .int .i64 0, .string ⟨#[]⟩, .slice none 0 0, .slice none 0 0] 51) = wb := ⟨_, rfl⟩
            have HX : Hid (wb.heap[gb]? = some (.cells #[.int .i64 0, .int .i64 0, .string ⟨#[]⟩, .slice none 0 0, .slice none 0 0] 51 (0, 0)) ∧ wr.heap.size ≤ gb ∧ Below wr.heap.size wr wb ∧ u.heap.size ≤ gb ∧ Below u.heap.size u wb) := hide (by
              have q : Below u.heap.size u wb := by rw [← hwb]; exact (Below.refl _ _).alloc (Nat.le_refl _) _
              refine ⟨by rw [← hwb, ← hgb]; exact heap_alloc_new u _, by rw [← hgb]; exact (unhide HB5).size, (unhide HB5).trans (q.mono (unhide HB5).size), by omega, q⟩)
            rw [hgb, hwb]
            refine hK.out _ _ (Or.inr (unhide S1 _ (unhide HX).2.2.1)) ?_
            clear hK K hwb hgb
            try simp only [Act.put, List.setIfInBounds_toArray, List.set_cons_zero, List.set_cons_succ]
            refine till_one 14 (by kernel_rfl) rfl (fun K hK => ?_)
            obtain ⟨d0, d1, d2, d3, d4⟩ := row_cell (unhide HX).1
            have f0 : wb.frozen? ⟨gb, 0, none⟩ = false := frozen_of_row wb gb 0 _ _ (unhide HX).1
            have f1 : wb.frozen? ⟨gb, 1, none⟩ = false := frozen_of_row wb gb 1 _ _ (unhide HX).1
            have f2 : wb.frozen? ⟨gb, 2, none⟩ = false := frozen_of_row wb gb 2 _ _ (unhide HX).1
            have f3 : wb.frozen? ⟨gb, 3, none⟩ = false := frozen_of_row wb gb 3 _ _ (unhide HX).1
            have f4 : wb.frozen? ⟨gb, 4, none⟩ = false := frozen_of_row wb gb 4 _ _ (unhide HX).1
            go_simp
            have H9 := hide (RcS.of (unhide HKY) (unhide HX).1 (unhide HX).2.1 (unhide HX).2.2.1 (unhide HZ5) (unhide HY5) (Or.inr (unhide HX).2.2.2.1) (unhide HX).2.2.2.2.size (fun b hb _ => (unhide HX).2.2.2.2.block b hb))
            obtain ⟨w9, hw9⟩ : ∃ w9, (((((wb.setCell ⟨gb, 0, none⟩ (.int .i64 x0)).setCell ⟨gb, 1, none⟩ (.int .i64 x1)).setCell ⟨gb, 2, none⟩ (.string x2)).setCell ⟨gb, 3, none⟩ (.slice al ll cl)).setCell ⟨gb, 4, none⟩ (.slice ak mm ck)) = w9 := ⟨_, rfl⟩
            rw [hw9] at H9 ⊢
            clear hw9 d0 d1 d2 d3 d4 f0 f1 f2 f3 f4
            refine hK.out _ _ (Or.inr (unhide S1 _ (unhide H9).below)) ?_
            clear hK K
            try simp only [Act.put, List.setIfInBounds_toArray, List.set_cons_zero, List.set_cons_succ]
            refine till_take 15 (v := .int .i64 nx) (some 7) rfl rfl rfl (by kernel_rfl) (by kernel_rfl) (by kernel_rfl) (by kernel_rfl) (fun _ _ _ h => h) (Or.inl ⟨by rfl, fun u hu => by obtain ⟨c1, c2⟩ := hu; go_simp⟩) (unhide S1 _ (unhide H9).below) ?_
            try simp only [Act.put, List.setIfInBounds_toArray, List.set_cons_zero, List.set_cons_succ]
            refine till_one 16 (by kernel_rfl) rfl (fun K hK => ?_)
            go_simp
            refine hK.out _ _ (Or.inl rfl) ?_
            clear hK K
            try simp only [Act.put, List.setIfInBounds_toArray, List.set_cons_zero, List.set_cons_succ]
            refine till_done (by kernel_rfl) ?_ _
            go_wp2_with fail
            go_meet
            exact ⟨gb, x0, x1, x2, al, ak, ll, cl, mm, ck, rfl, rfl, rfl, H9⟩
          · go_simp
            obtain ⟨gb, hgb⟩ : ∃ gb, w2.heap.size = gb := ⟨_, rfl⟩
            obtain ⟨wa, hwa⟩ : ∃ wa, w2.alloc (.cells #[.int .i64 0, .int .i64 0, .string ⟨#[]⟩, .slice none 0 0, .slice none 0 0] 51) = wa := ⟨_, rfl⟩
            have HA : Hid (wa.heap[gb]? = some (.cells #[.int .i64 0, .int .i64 0, .string ⟨#[]⟩, .slice none 0 0, .slice none 0 0] 51 (0, 0)) ∧ wr.heap.size ≤ gb ∧ Below wr.heap.size wr wa ∧ gb < wa.heap.size) := hide (by
              have q : Below w2.heap.size w2 wa := by rw [← hwa]; exact (Below.refl _ _).alloc (Nat.le_refl _) _
              refine ⟨by rw [← hwa, ← hgb]; exact heap_alloc_new w2 _, by rw [← hgb]; exact (unhide HB2).size, (unhide HB2).trans (q.mono (unhide HB2).size), by rw [← hwa, ← hgb]; simp⟩)
            rw [hgb, hwa]
            refine hK.out _ _ (Or.inr (unhide S1 _ (unhide HA).2.2.1)) ?_
            clear hK K hwa hgb
            try simp only [Act.put, List.setIfInBounds_toArray, List.set_cons_zero, List.set_cons_succ]
            refine till_one 8 (by kernel_rfl) rfl (fun K hK => ?_)
            go_simp
            refine (unhide CT wa (unhide HA).2.2.1).mono ?_
            rintro e5 wb ⟨x0, x1, x2, al, ak, ll, cl, mm, ck, rfl, y5, b5⟩
            have HX : Hid (wb.heap[gb]? = some (.cells #[.int .i64 0, .int .i64 0, .string ⟨#[]⟩, .slice none 0 0, .slice none 0 0] 51 (0, 0)) ∧ wr.heap.size ≤ gb ∧ Below wr.heap.size wr wb ∧ gb < wa.heap.size ∧ wr.heap.size ≤ wa.heap.size) := hide ⟨(b5.block gb (unhide HA).2.2.2).trans (unhide HA).1, (unhide HA).2.1, (unhide HA).2.2.1.trans (b5.mono (unhide HA).2.2.1.size), (unhide HA).2.2.2, (unhide HA).2.2.1.size⟩
            have HY5 := hide y5
            clear y5 b5
            go_wp2_with fail
            refine hK.out _ _ (Or.inr (unhide S1 _ (unhide HX).2.2.1)) ?_
            clear hK K
            try simp only [Act.put, List.setIfInBounds_toArray, List.set_cons_zero, List.set_cons_succ]
            refine till_take 9 (v := .tuple #[.agg #[.int .i64 x0, .int .i64 x1, .string x2, .slice al ll cl, .slice ak mm ck], .int .i64 nx, .int .i64 c]) (some 23) rfl rfl rfl (by kernel_rfl) (by kernel_rfl) (by kernel_rfl) (by kernel_rfl) (fun _ _ _ h => h) (Or.inl ⟨by rfl, fun u hu => by obtain ⟨c1, c2⟩ := hu; go_simp⟩) (unhide S1 _ (unhide HX).2.2.1) ?_
            try simp only [Act.put, List.setIfInBounds_toArray, List.set_cons_zero, List.set_cons_succ]
            refine till_take 10 (v := .agg #[.int .i64 x0, .int .i64 x1, .string x2, .slice al ll cl, .slice ak mm ck]) (some 33) rfl rfl rfl (by kernel_rfl) (by kernel_rfl) (by kernel_rfl) (by kernel_rfl) (fun _ _ _ h => h) (Or.inl ⟨by rfl, fun u hu => by obtain ⟨c1, c2⟩ := hu; go_simp⟩) (unhide S1 _ (unhide HX).2.2.1) ?_
            try simp only [Act.put, List.setIfInBounds_toArray, List.set_cons_zero, List.set_cons_succ]
            refine till_take 11 (v := .int .i64 nx) (some 34) rfl rfl rfl (by kernel_rfl) (by kernel_rfl) (by kernel_rfl) (by kernel_rfl) (fun _ _ _ h => h) (Or.inl ⟨by rfl, fun u hu => by obtain ⟨c1, c2⟩ := hu; go_simp⟩) (unhide S1 _ (unhide HX).2.2.1) ?_
            try simp only [Act.put, List.setIfInBounds_toArray, List.set_cons_zero, List.set_cons_succ]
            refine till_take 12 (v := .int .i64 c) (some 35) rfl rfl rfl (by kernel_rfl) (by kernel_rfl) (by kernel_rfl) (by kernel_rfl) (fun _ _ _ h => h) (Or.inl ⟨by rfl, fun u hu => by obtain ⟨c1, c2⟩ := hu; go_simp⟩) (unhide S1 _ (unhide HX).2.2.1) ?_
            try simp only [Act.put, List.setIfInBounds_toArray, List.set_cons_zero, List.set_cons_succ]
            refine till_one 14 (by kernel_rfl) rfl (fun K hK => ?_)
            obtain ⟨d0, d1, d2, d3, d4⟩ := row_cell (unhide HX).1
            have f0 : wb.frozen? ⟨gb, 0, none⟩ = false := frozen_of_row wb gb 0 _ _ (unhide HX).1
            have f1 : wb.frozen? ⟨gb, 1, none⟩ = false := frozen_of_row wb gb 1 _ _ (unhide HX).1
            have f2 : wb.frozen? ⟨gb, 2, none⟩ = false := frozen_of_row wb gb 2 _ _ (unhide HX).1
            have f3 : wb.frozen? ⟨gb, 3, none⟩ = false := frozen_of_row wb gb 3 _ _ (unhide HX).1
            have f4 : wb.frozen? ⟨gb, 4, none⟩ = false := frozen_of_row wb gb 4 _ _ (unhide HX).1
            go_simp
            have H9 := hide (RcS.of (unhide HKY) (unhide HX).1 (unhide HX).2.1 (unhide HX).2.2.1 (unhide HX).2.2.2.2 (unhide HY5) (Or.inl (unhide HX).2.2.2.1) (Nat.le_refl _) (fun _ _ _ => rfl))
            obtain ⟨w9, hw9⟩ : ∃ w9, (((((wb.setCell ⟨gb, 0, none⟩ (.int .i64 x0)).setCell ⟨gb, 1, none⟩ (.int .i64 x1)).setCell ⟨gb, 2, none⟩ (.string x2)).setCell ⟨gb, 3, none⟩ (.slice al ll cl)).setCell ⟨gb, 4, none⟩ (.slice ak mm ck)) = w9 := ⟨_, rfl⟩
            rw [hw9] at H9 ⊢
            clear hw9 d0 d1 d2 d3 d4 f0 f1 f2 f3 f4
            refine hK.out _ _ (Or.inr (unhide S1 _ (unhide H9).below)) ?_
            clear hK K
            try simp only [Act.put, List.setIfInBounds_toArray, List.set_cons_zero, List.set_cons_succ]
            refine till_take 15 (v := .int .i64 nx) (some 7) rfl rfl rfl (by kernel_rfl) (by kernel_rfl) (by kernel_rfl) (by kernel_rfl) (fun _ _ _ h => h) (Or.inl ⟨by rfl, fun u hu => by obtain ⟨c1, c2⟩ := hu; go_simp⟩) (unhide S1 _ (unhide H9).below) ?_
            try simp only [Act.put, List.setIfInBounds_toArray, List.set_cons_zero, List.set_cons_succ]
            refine till_one 16 (by kernel_rfl) rfl (fun K hK => ?_)
            go_simp
            refine hK.out _ _ (Or.inl rfl) ?_
            clear hK K
            try simp only [Act.put, List.setIfInBounds_toArray, List.set_cons_zero, List.set_cons_succ]
            refine till_done (by kernel_rfl) ?_ _
            go_wp2_with fail
            go_meet
            exact ⟨gb, x0, x1, x2, al, ak, ll, cl, mm, ck, rfl, rfl, rfl, H9⟩
        case rest =>
          obtain ⟨gb, x0, x1, x2, al, ak, ll, cl, mm, ck, rfl, rfl, rfl, H9⟩ := hcut
          have R9 := (unhide HM).later (unhide H9).below
          obtain ⟨e0, e1, e2, e3, _, _, _, _⟩ := R9.rd.cells
          obtain ⟨aC, cC, hC, nC, lC, mC, oC⟩ := slice_form R9.ownC
          obtain ⟨nk, hn'⟩ : ∃ nk, m'.cs.length = nk := ⟨_, rfl⟩
          rw [hn'] at hC
          have hl' : nk ≤ 200 := by have := unhide HL; have := unhide HI; omega
          subst hC
          have HLF : Hid (∀ b, F'.ownBlock = some b → b < wr.heap.size) := hide (fun b hb => ((unhide HM).ownF.lt b hb).2)
          have HLX : Hid (∀ b, X'.ownBlock = some b → b < wr.heap.size) := hide (fun b hb => ((unhide HM).ownX.lt b hb).2)
          have HLW : Hid (∀ b, (Value.slice aC nk cC).ownBlock = some b → b < wr.heap.size) := hide (fun b hb => ((unhide HM).ownC.lt b hb).2)
          have HGW : Hid (gr < wr.heap.size) := hide (unhide HM).lt
          have HR9 := hide R9
          have HNk := hide hn'
          have HT9 : Hid (RcT Y wr wc gb (.int .i64 x0) (.int .i64 x1) (.string x2) (.slice al ll cl) (.slice ak mm ck)) := hide ⟨(unhide H9).row, (unhide H9).low, (unhide H9).below.size, (unhide H9).said⟩
          clear R9 S1 nC lC mC oC hn'
          rcases hc with rfl | rfl | rfl
          · have HEX : Hid (match rdC bs m' a' with | .error p => ¬ p.1 = 0 ∧ ((0 : Int), q') = p | .ok (m1, a1) => (nx, (0 : Int), q') = (a1, 0, q') ∧ m1 = ⟨m'.cs ++ [y], m'.fs, m'.xs⟩) := hide (by rw [unhide HE, if_pos rfl]; exact ⟨rfl, rfl⟩)
            go_upto_region 9 with fail
            have HRA := HR9
            have HB9 := HT9
            obtain ⟨wd, hwd⟩ : ∃ wd, wc = wd := ⟨_, rfl⟩
            rw [hwd] at HRA HB9 ⊢
            clear hwd e0 e1 e2 e3
            have HS0 : Hid (wd.drew.cell? ⟨gm, 0, none⟩ = some (.slice aC nk cC) ∧ wd.drew.heap[gb]? = some (.cells #[.int .i64 x0, .int .i64 x1, .string x2, .slice al ll cl, .slice ak mm ck] 51 (0, 0))) := hide ⟨(row_cell3 (unhide HRA).box).1, (unhide HB9).row⟩
            refine tilt_begin (S := fun u => u.cell? ⟨gm, 0, none⟩ = some (.slice aC nk cC) ∧ u.heap[gb]? = some (.cells #[.int .i64 x0, .int .i64 x1, .string x2, .slice al ll cl, .slice ak mm ck] 51 (0, 0))) 12 (by kernel_rfl) ?_
            obtain ⟨w2, hw2⟩ : ∃ w2, wd.drew = w2 := ⟨_, rfl⟩
            have HB2 : Hid (Below wd.heap.size wd w2) := hide (by rw [← hw2]; exact (Below.refl _ _).drew)
            rw [hw2] at HS0 ⊢
            clear hw2
            refine tilt_take 0 (v := .pointer (some ⟨gm, 0, none⟩)) (some 46) (by decide) rfl rfl rfl (by kernel_rfl) (by kernel_rfl) (by kernel_rfl) (by kernel_rfl) (fun _ _ _ h => h) (Or.inl ⟨by rfl, fun u hu => by obtain ⟨c3, hb⟩ := hu; obtain ⟨d0, d1, d2, d3, d4⟩ := row_cell hb; go_simp⟩) (unhide HS0) ?_
            try simp only [Act.put, List.setIfInBounds_toArray, List.set_cons_zero, List.set_cons_succ]
            refine tilt_take 1 (v := .pointer (some ⟨gm, 0, none⟩)) (some 47) (by decide) rfl rfl rfl (by kernel_rfl) (by kernel_rfl) (by kernel_rfl) (by kernel_rfl) (fun _ _ _ h => h) (Or.inl ⟨by rfl, fun u hu => by obtain ⟨c3, hb⟩ := hu; obtain ⟨d0, d1, d2, d3, d4⟩ := row_cell hb; go_simp⟩) (unhide HS0) ?_
            try simp only [Act.put, List.setIfInBounds_toArray, List.set_cons_zero, List.set_cons_succ]
            refine tilt_take 2 (v := .pointer (some ⟨gm, 0, none⟩)) (some 48) (by decide) rfl rfl rfl (by kernel_rfl) (by kernel_rfl) (by kernel_rfl) (by kernel_rfl) (fun _ _ _ h => h) (Or.inl ⟨by rfl, fun u hu => by obtain ⟨c3, hb⟩ := hu; obtain ⟨d0, d1, d2, d3, d4⟩ := row_cell hb; go_simp⟩) (unhide HS0) ?_
            try simp only [Act.put, List.setIfInBounds_toArray, List.set_cons_zero, List.set_cons_succ]
            refine tilt_take 3 (v := .slice aC nk cC) (some 49) (by decide) rfl rfl rfl (by kernel_rfl) (by kernel_rfl) (by kernel_rfl) (by kernel_rfl) (fun _ _ _ h => h) (Or.inl ⟨by rfl, fun u hu => by obtain ⟨c3, hb⟩ := hu; obtain ⟨d0, d1, d2, d3, d4⟩ := row_cell hb; go_simp⟩) (unhide HS0) ?_
            try simp only [Act.put, List.setIfInBounds_toArray, List.set_cons_zero, List.set_cons_succ]
            refine tilt_take 4 (v := .agg #[.int .i64 x0, .int .i64 x1, .string x2, .slice al ll cl, .slice ak mm ck]) (some 50) (by decide) rfl rfl rfl (by kernel_rfl) (by kernel_rfl) (by kernel_rfl) (by kernel_rfl) (fun _ _ _ h => h) (Or.inl ⟨by rfl, fun u hu => by obtain ⟨c3, hb⟩ := hu; obtain ⟨d0, d1, d2, d3, d4⟩ := row_cell hb; go_simp⟩) (unhide HS0) ?_
            try simp only [Act.put, List.setIfInBounds_toArray, List.set_cons_zero, List.set_cons_succ]
            refine tilt_take 5 (v := .int .i64 (nk : Int)) (some 51) (by decide) rfl rfl rfl (by kernel_rfl) (by kernel_rfl) (by kernel_rfl) (by kernel_rfl) (fun _ _ _ h => h) (Or.inl ⟨by rfl, fun u hu => by obtain ⟨c3, hb⟩ := hu; obtain ⟨d0, d1, d2, d3, d4⟩ := row_cell hb; go_simp⟩) (unhide HS0) ?_
            try simp only [Act.put, List.setIfInBounds_toArray, List.set_cons_zero, List.set_cons_succ]
            refine tilt_one 6 (by decide) (by kernel_rfl) rfl (fun K hK => ?_)
            go_simp
            obtain ⟨g6, hg6⟩ : ∃ g6, w2.heap.size = g6 := ⟨_, rfl⟩
            obtain ⟨wa, hwa⟩ : ∃ wa, w2.alloc (.cells #[.int .i64 0, .int .i64 0, .string ⟨#[]⟩, .slice none 0 0, .slice none 0 0] 51) = wa := ⟨_, rfl⟩
            have HA : Hid (wa.heap[g6]? = some (.cells #[.int .i64 0, .int .i64 0, .string ⟨#[]⟩, .slice none 0 0, .slice none 0 0] 51 (0, 0)) ∧ Below wd.heap.size wd wa ∧ wa.cell? ⟨gm, 0, none⟩ = some (.slice aC nk cC) ∧ wa.heap[gb]? = some (.cells #[.int .i64 x0, .int .i64 x1, .string x2, .slice al ll cl, .slice ak mm ck] 51 (0, 0))) := hide (by
              have q : Below w2.heap.size w2 wa := by rw [← hwa]; exact (Below.refl _ _).alloc (Nat.le_refl _) _
              refine ⟨by rw [← hwa, ← hg6]; exact heap_alloc_new w2 _, (unhide HB2).trans (q.mono (unhide HB2).size), cell_later q (unhide HS0).1, (q.block gb (lt_of_row (unhide HS0).2)).trans (unhide HS0).2⟩)
            have HRW := hide ((unhide HRA).later (unhide HA).2.1)
            rw [hg6, hwa]
            refine hK.out _ _ (unhide HA).2.2 ?_
            clear hK K hwa hg6
            try simp only [Act.put, List.setIfInBounds_toArray, List.set_cons_zero, List.set_cons_succ]
            obtain ⟨iv, hiv, hz0, hz1, hz2⟩ := info_parts infoVv
            have HI := hide (And.intro hiv (And.intro hz0 (And.intro hz1 hz2)))
            clear hiv hz0 hz1 hz2
            have HOW : Hid (wa.ownsRow (gr + 1) 51 5 (.slice aC nk cC) nk (flat V' nk)) := hide (by have := (unhide HRW).ownC; rw [unhide HNk] at this; exact this)
            have hbs : gr + 1 ≤ wa.heap.size := (unhide HRW).lt
            have HGB : Hid (∀ b, (Value.slice aC nk cC).ownBlock = some b → gr + 1 ≤ b ∧ b < wr.heap.size) := hide (fun b hb => ⟨((unhide HOW).lt b hb).1, (unhide HLW) b hb⟩)
            refine tilt_one 7 (by decide) (by kernel_rfl) rfl (fun K hK => ?_)
            refine step_append_lies _ (by rfl) _ _ 24 (by rfl) (gr + 1) 51 iv (.agg #[.int .i64 0, .int .i64 0, .string ⟨#[]⟩, .slice none 0 0, .slice none 0 0]) 5 80 Try.underlying24 (unhide HI).1 (unhide HI).2.1 (unhide HI).2.2.1 (unhide HI).2.2.2 rfl (by omega) (.slice aC nk cC) nk (flat V' nk) (by rfl) (unhide HOW) ⟨g6, 0, none⟩ 1 1 [.int .i64 0, .int .i64 0, .string ⟨#[]⟩, .slice none 0 0, .slice none 0 0] (by rfl) (by rfl) (World.news_of_block (unhide HA).1) (by simp [Value.oneCell']) (by omega) (by unfold maxLen; omega) (by omega) hbs _ rfl ?_
            intro g7 cap7 w7 hown7 hgrow7 hat7 hlt7
            change K (Act.put _ (some 53) _) w7
            have HF7 : Hid (∀ b, b < wa.heap.size → some b ≠ (Value.slice aC nk cC).ownBlock → w7.heap[b]? = wa.heap[b]?) := hide (fun b hb hn => hgrow7.block b hb hn)
            have hgr7 : w7.heap[gm]? = wa.heap[gm]? := unhide HF7 gm (lt_of_row (unhide HRW).box) (fun e => by have := ((unhide HGB) gm e.symm).1; have := (unhide HRW).two; omega)
            have hgb7 : w7.heap[gb]? = wa.heap[gb]? := unhide HF7 gb (lt_of_row (unhide HA).2.2.2) (fun e => by have := ((unhide HGB) gb e.symm).2; have := (unhide HB9).low; omega)
            have HS7 : Hid (w7.cell? ⟨gm, 0, none⟩ = some (.slice aC nk cC) ∧ w7.heap[gb]? = some (.cells #[.int .i64 x0, .int .i64 x1, .string x2, .slice al ll cl, .slice ak mm ck] 51 (0, 0))) := hide ⟨(row_cell3 (hgr7.trans (unhide HRW).box)).1, hgb7.trans (unhide HA).2.2.2⟩
            have H7 := hide (And.intro hown7 (And.intro hgrow7 (And.intro hat7 hlt7)))
            have HGR7 := hide (hgr7.trans (unhide HRW).box)
            refine hK.out _ _ (unhide HS7) ?_
            clear hK K hown7 hgrow7 hat7 hlt7 hgr7 hgb7
            try simp only [Act.put, List.setIfInBounds_toArray, List.set_cons_zero, List.set_cons_succ]
            have j9 : (nk : Int) < (nk : Int) + 1 := by omega
            refine tilt_takeU 8 (v := .pointer (some ⟨g7, nk * 5, none⟩)) (some 54) (by decide) rfl rfl (by kernel_rfl) (by kernel_rfl) (by kernel_rfl) (fun _ _ _ h => h) (Or.inl ⟨by rfl, fun u => by go_simp⟩) (unhide HS7) ?_
            try simp only [Act.put, List.setIfInBounds_toArray, List.set_cons_zero, List.set_cons_succ]
            refine tilt_takeU 10 (v := .pointer (some ⟨gm, 0, none⟩)) (some 55) (by decide) rfl rfl (by kernel_rfl) (by kernel_rfl) (by kernel_rfl) (fun _ _ _ h => h) (Or.inl ⟨by rfl, fun u => by go_simp⟩) (unhide HS7) ?_
            try simp only [Act.put, List.setIfInBounds_toArray, List.set_cons_zero, List.set_cons_succ]
            refine tilt_takeU 11 (v := .pointer (some ⟨gm, 0, none⟩)) (some 56) (by decide) rfl rfl (by kernel_rfl) (by kernel_rfl) (by kernel_rfl) (fun _ _ _ h => h) (Or.inl ⟨by rfl, fun u => by go_simp⟩) (unhide HS7) ?_
            try simp only [Act.put, List.setIfInBounds_toArray, List.set_cons_zero, List.set_cons_succ]
            have HFL : Hid ((flat V' nk).length = nk * 5) := hide (flat_len V' nk (fun j hj => (unhide HRA).row j (by have := unhide HNk; omega)))
            have hrow7 : ∃ cur, w7.heap[g7]? = some (.cells cur 51 (0, 0)) := by
              rcases (unhide H7).1.2 with ⟨e1, _⟩ | ⟨g, cap', cur, e1, _, hg, _⟩
              · cases e1
              · cases e1; exact ⟨cur, hg⟩
            obtain ⟨cur7, hcur7⟩ := hrow7
            have r0 : w7.cell? ⟨g7, nk * 5, none⟩ = some (.int .i64 0) := by
              have q := (unhide H7).1.cells (g := g7) rfl (nk * 5) (.int .i64 0) (by rw [List.getElem?_append_right (by rw [unhide HFL]; omega), unhide HFL]; simp)
              have ha : (⟨g7, 0, none⟩ : Addr).add (nk * 5) = ⟨g7, nk * 5, none⟩ := by unfold Addr.add; split <;> simp_all
              rw [ha] at q
              exact q
            have q0 : w7.frozen? ⟨g7, nk * 5, none⟩ = false := frozen_of_row w7 g7 (nk * 5) _ _ hcur7
            have r1 : w7.cell? ⟨g7, nk * 5 + 1, none⟩ = some (.int .i64 0) := by
              have q := (unhide H7).1.cells (g := g7) rfl (nk * 5 + 1) (.int .i64 0) (by rw [List.getElem?_append_right (by rw [unhide HFL]; omega), unhide HFL]; simp)
              have ha : (⟨g7, 0, none⟩ : Addr).add (nk * 5 + 1) = ⟨g7, nk * 5 + 1, none⟩ := by unfold Addr.add; split <;> simp_all
              rw [ha] at q
              exact q
            have q1 : w7.frozen? ⟨g7, nk * 5 + 1, none⟩ = false := frozen_of_row w7 g7 (nk * 5 + 1) _ _ hcur7
            have r2 : w7.cell? ⟨g7, nk * 5 + 2, none⟩ = some (.string ⟨#[]⟩) := by
              have q := (unhide H7).1.cells (g := g7) rfl (nk * 5 + 2) (.string ⟨#[]⟩) (by rw [List.getElem?_append_right (by rw [unhide HFL]; omega), unhide HFL]; simp)
              have ha : (⟨g7, 0, none⟩ : Addr).add (nk * 5 + 2) = ⟨g7, nk * 5 + 2, none⟩ := by unfold Addr.add; split <;> simp_all
              rw [ha] at q
              exact q
            have q2 : w7.frozen? ⟨g7, nk * 5 + 2, none⟩ = false := frozen_of_row w7 g7 (nk * 5 + 2) _ _ hcur7
            have r3 : w7.cell? ⟨g7, nk * 5 + 3, none⟩ = some (.slice none 0 0) := by
              have q := (unhide H7).1.cells (g := g7) rfl (nk * 5 + 3) (.slice none 0 0) (by rw [List.getElem?_append_right (by rw [unhide HFL]; omega), unhide HFL]; simp)
              have ha : (⟨g7, 0, none⟩ : Addr).add (nk * 5 + 3) = ⟨g7, nk * 5 + 3, none⟩ := by unfold Addr.add; split <;> simp_all
              rw [ha] at q
              exact q
            have q3 : w7.frozen? ⟨g7, nk * 5 + 3, none⟩ = false := frozen_of_row w7 g7 (nk * 5 + 3) _ _ hcur7
            have r4 : w7.cell? ⟨g7, nk * 5 + 4, none⟩ = some (.slice none 0 0) := by
              have q := (unhide H7).1.cells (g := g7) rfl (nk * 5 + 4) (.slice none 0 0) (by rw [List.getElem?_append_right (by rw [unhide HFL]; omega), unhide HFL]; simp)
              have ha : (⟨g7, 0, none⟩ : Addr).add (nk * 5 + 4) = ⟨g7, nk * 5 + 4, none⟩ := by unfold Addr.add; split <;> simp_all
              rw [ha] at q
              exact q
            have q4 : w7.frozen? ⟨g7, nk * 5 + 4, none⟩ = false := frozen_of_row w7 g7 (nk * 5 + 4) _ _ hcur7
            have hne7 : g7 ≠ gm := fun e => by have := ((unhide H7).1.lt g7 rfl).1; have := (unhide HRW).two; omega
            have s3 : w7.cell? ⟨gm, 0, none⟩ = some (.slice aC nk cC) := (unhide HS7).1
            have t3 : w7.frozen? ⟨gm, 0, none⟩ = false := frozen_of_row w7 gm 0 _ _ (unhide HGR7)
            have HGB7 : Hid (gb ≠ g7) := hide (fun e => by
              rcases (unhide H7).2.2.1 with q | q
              · have := ((unhide HGB) g7 q).2; have := (unhide HB9).low; omega
              · have := lt_of_row (unhide HA).2.2.2; omega)
            have HFIN : Hid (∀ w9, w9.ownsRow (gr + 1) 51 5 (.slice (some ⟨g7, 0, none⟩) (nk + 1) cap7) (nk + 1) (flat V' nk ++ [.int .i64 x0, .int .i64 x1, .string x2, .slice al ll cl, .slice ak mm ck]) → w9.heap[gm]? = some (.cells #[(.slice (some ⟨g7, 0, none⟩) (nk + 1) cap7), F', X'] 28 (0, 0)) → (∀ b, b ≠ gm → b ≠ g7 → w9.heap[b]? = w7.heap[b]?) → w9.heap.size = w7.heap.size → Below gm w7 w9 → ∃ C2 V2, RdQ w0 w9 gm gr (.slice bo e bc) (a' : Nat) (0 : Int) q' C2 F' X' ⟨m'.cs ++ [y], m'.fs, m'.xs⟩ V2) := hide (fun w9 k1 k2 k3 k4 k5 => by
              have hgw := unhide HGW
              have hB7 : Below gm wa w7 := (Below.refl _ _).grown (unhide H7).2.1 (by have := (unhide HRW).lt; have := (unhide HRW).two; omega) (fun k e => by have := ((unhide HGB) k e).1; have := (unhide HRW).two; omega)
              have hat : (Value.slice aC nk cC).ownBlock = some g7 ∨ wa.heap.size ≤ g7 := by
                rcases (unhide H7).2.2.1 with q | q
                · exact Or.inl q
                · exact Or.inr (by omega)
              have hIP := (show IsQ wd (fun b => wr.heap.size ≤ b ∧ b < wd.heap.size) y (.agg #[.int .i64 x0, .int .i64 x1, .string x2, .slice al ll cl, .slice ak mm ck]) from by have h := (unhide HB9).said; rw [← unhide HYd] at h; exact h)
              have hIP2 := IsQ.to (w' := wa) (Q := fun b => wr.heap.size ≤ b ∧ b < wa.heap.size) (fun b hb => (unhide HA).2.1.block b hb.2) (fun b hb => ⟨hb.1, Nat.lt_of_lt_of_le hb.2 (unhide HA).2.1.size⟩) hIP
              exact ⟨_, _, (unhide HRW).pushD (lo := wr.heap.size) (unhide HNk) (unhide HF7) (unhide H7).2.1.size hB7 hat k1 k2 k3 k4 k5 rfl hIP2 (fun b hb => ((unhide HGB) b hb).2) (fun b hb => (unhide HLF) b hb) (fun b hb => (unhide HLX) b hb) hgw⟩)
            refine tilt_two 9 (by decide) (by kernel_rfl) rfl rfl (fun K hK => ?_) (fun K hK => ?_)
            · go_simp
              change K _ (five5 w7 g7 (nk * 5) (.int .i64 x0) (.int .i64 x1) (.string x2) (.slice al ll cl) (.slice ak mm ck))
              have o8 := own_five (unhide HFL) (unhide H7).1 (.int .i64 x0) (.int .i64 x1) (.string x2) (.slice al ll cl) (.slice ak mm ck)
              have e8 := fun q hq => five5_other w7 g7 (nk * 5) q (.int .i64 x0) (.int .i64 x1) (.string x2) (.slice al ll cl) (.slice ak mm ck) hq
              have z8 := five5_size w7 g7 (nk * 5) (.int .i64 x0) (.int .i64 x1) (.string x2) (.slice al ll cl) (.slice ak mm ck)
              have b8 := five5_below (o := nk * 5) (Below.refl gm w7) (show gm ≤ g7 by have := ((unhide H7).1.lt g7 rfl).1; have := (unhide HRW).two; omega) (.int .i64 x0) (.int .i64 x1) (.string x2) (.slice al ll cl) (.slice ak mm ck)
              obtain ⟨w8, hw8⟩ : ∃ w8, five5 w7 g7 (nk * 5) (.int .i64 x0) (.int .i64 x1) (.string x2) (.slice al ll cl) (.slice ak mm ck) = w8 := ⟨_, rfl⟩
              rw [hw8] at o8 e8 z8 b8 ⊢
              have HW8 := hide (And.intro o8 (And.intro e8 (And.intro z8 b8)))
              have HGR8 : Hid (w8.heap[gm]? = some (.cells #[.slice aC nk cC, F', X'] 28 (0, 0))) := hide ((e8 gm (Ne.symm hne7)).trans (unhide HGR7))
              have s8 : w8.cell? ⟨gm, 0, none⟩ = some (.slice aC nk cC) := (row_cell3 (unhide HGR8)).1
              have t8 : w8.frozen? ⟨gm, 0, none⟩ = false := frozen_of_row w8 gm 0 _ _ (unhide HGR8)
              refine hK.out _ _ ⟨s8, (e8 gb (unhide HGB7)).trans (unhide HS7).2⟩ ?_
              clear hK K hw8 o8 e8 z8 b8
              try simp only [Act.put, List.setIfInBounds_toArray, List.set_cons_zero, List.set_cons_succ]
              refine tilt_last (by kernel_rfl) rfl (fun K hK => ?_)
              go_simp
              refine hK.out _ _ ?_
              clear hK K
              try simp only [Act.put, List.setIfInBounds_toArray, List.set_cons_zero, List.set_cons_succ]
              refine any_done (by kernel_rfl) ?_ _
              have H10 : Hid (∃ C2 V2, RdQ w0 (w8.setCell ⟨gm, 0, none⟩ (.slice (some ⟨g7, 0, none⟩) (nk + 1) cap7)) gm gr (.slice bo e bc) (a' : Nat) (0 : Int) q' C2 F' X' ⟨m'.cs ++ [y], m'.fs, m'.xs⟩ V2) := hide (by
                obtain ⟨k1, k2, k3, k4⟩ := unhide HW8
                refine unhide HFIN _ ?_ ?_ ?_ ?_ ?_
                · exact own_later k1 (fun b _ hv => by rw [heap_setCell_other _ _ _ _ (by rw [← own_sl hv]; exact hne7)])
                · rw [heap_setCell_same w8 gm 0 _ _ _ (unhide HGR8)]; rfl
                · intro b h1 h2; rw [heap_setCell_other _ _ _ _ (by simpa using h1)]; exact k2 b h2
                · simpa using k3
                · exact k4.setCell (p := ⟨gm, 0, none⟩) (Nat.le_refl _) _)
              obtain ⟨C2, V2, H11⟩ := unhide H10
              obtain ⟨_, _, _, _, _, o1, _, _⟩ := H11.rd.cells
              have o2 := H11.rd.cells.2.1
              have H12 := hide (H11.beside ((Beside.refl _ _).set (f := 1) (v := .int .i64 nx)) (H11.rd.setAt nx))
              have HS9 := hide (next_q (q' := q') (m2 := ⟨m'.cs ++ [y], m'.fs, m'.xs⟩) (b5 := nx) (f5 := (0 : Int)) (q5 := q') hlt (unhide HN) (unhide HEX))
              have HL9 : Hid ((m'.cs ++ [y]).length ≤ 100 + (i + 1)) := hide (by rw [List.length_append, List.length_singleton]; have := unhide HL; omega)
              have HI9 : Hid (i + 1 ≤ n) := hide (by omega)
              clear H10 H11
              go_wp2_with fail
              go_roundw
              case rel => exact ⟨i + 1, ⟨m'.cs ++ [y], m'.fs, m'.xs⟩, nx, (0 : Int), q', C2, F', X', V2, by go_num, HI9, H12, HL9, HS9⟩
              case measure => have := unhide HI9; simp [intOf]; omega
            · go_simp
              have e8 := fun q (hq : q ≠ gm) => heap_setCell_other w7 ⟨gm, 0, none⟩ q (.slice (some ⟨g7, 0, none⟩) (nk + 1) cap7) hq
              have g8 := heap_setCell_same w7 gm 0 _ _ (.slice (some ⟨g7, 0, none⟩) (nk + 1) cap7) (unhide HGR7)
              have z8 : (w7.setCell ⟨gm, 0, none⟩ (.slice (some ⟨g7, 0, none⟩) (nk + 1) cap7)).heap.size = w7.heap.size := by simp
              have b8 := (Below.refl gm w7).setCell (p := ⟨gm, 0, none⟩) (Nat.le_refl _) (.slice (some ⟨g7, 0, none⟩) (nk + 1) cap7)
              have o8 : (w7.setCell ⟨gm, 0, none⟩ (.slice (some ⟨g7, 0, none⟩) (nk + 1) cap7)).ownsRow (gr + 1) 51 5 (.slice (some ⟨g7, 0, none⟩) (nk + 1) cap7) (nk + 1) (flat V' nk ++ [.int .i64 0, .int .i64 0, .string ⟨#[]⟩, .slice none 0 0, .slice none 0 0]) := own_later (unhide H7).1 (fun b _ hv => by rw [heap_setCell_other _ _ _ _ (by rw [← own_sl hv]; exact hne7)])
              obtain ⟨w8, hw8⟩ : ∃ w8, w7.setCell ⟨gm, 0, none⟩ (.slice (some ⟨g7, 0, none⟩) (nk + 1) cap7) = w8 := ⟨_, rfl⟩
              rw [hw8] at e8 g8 z8 b8 o8 ⊢
              have HW8 := hide (And.intro o8 (And.intro e8 (And.intro z8 (And.intro b8 g8))))
              have rr0 := (World.cell?_of_block (a := ⟨g7, nk * 5, none⟩) (e8 g7 hne7)).trans r0
              have qq0 : w8.frozen? ⟨g7, nk * 5, none⟩ = false := frozen_of_row w8 g7 (nk * 5) _ _ ((e8 g7 hne7).trans hcur7)
              have rr1 := (World.cell?_of_block (a := ⟨g7, nk * 5 + 1, none⟩) (e8 g7 hne7)).trans r1
              have qq1 : w8.frozen? ⟨g7, nk * 5 + 1, none⟩ = false := frozen_of_row w8 g7 (nk * 5 + 1) _ _ ((e8 g7 hne7).trans hcur7)
              have rr2 := (World.cell?_of_block (a := ⟨g7, nk * 5 + 2, none⟩) (e8 g7 hne7)).trans r2
              have qq2 : w8.frozen? ⟨g7, nk * 5 + 2, none⟩ = false := frozen_of_row w8 g7 (nk * 5 + 2) _ _ ((e8 g7 hne7).trans hcur7)
              have rr3 := (World.cell?_of_block (a := ⟨g7, nk * 5 + 3, none⟩) (e8 g7 hne7)).trans r3
              have qq3 : w8.frozen? ⟨g7, nk * 5 + 3, none⟩ = false := frozen_of_row w8 g7 (nk * 5 + 3) _ _ ((e8 g7 hne7).trans hcur7)
              have rr4 := (World.cell?_of_block (a := ⟨g7, nk * 5 + 4, none⟩) (e8 g7 hne7)).trans r4
              have qq4 : w8.frozen? ⟨g7, nk * 5 + 4, none⟩ = false := frozen_of_row w8 g7 (nk * 5 + 4) _ _ ((e8 g7 hne7).trans hcur7)
              refine hK.out _ _ ?_
              clear hK K hw8 o8 e8 z8 b8 g8
              try simp only [Act.put, List.setIfInBounds_toArray, List.set_cons_zero, List.set_cons_succ]
              refine any_one 9 (by kernel_rfl) rfl (fun K hK => ?_)
              go_simp
              change K _ (five5 w8 g7 (nk * 5) (.int .i64 x0) (.int .i64 x1) (.string x2) (.slice al ll cl) (.slice ak mm ck))
              obtain ⟨w9, hw9⟩ : ∃ w9, five5 w8 g7 (nk * 5) (.int .i64 x0) (.int .i64 x1) (.string x2) (.slice al ll cl) (.slice ak mm ck) = w9 := ⟨_, rfl⟩
              rw [hw9]
              have HW9 := hide hw9
              refine hK.out _ _ ?_
              clear hK K hw9
              try simp only [Act.put, List.setIfInBounds_toArray, List.set_cons_zero, List.set_cons_succ]
              refine any_done (by kernel_rfl) ?_ _
              have H10 : Hid (∃ C2 V2, RdQ w0 w9 gm gr (.slice bo e bc) (a' : Nat) (0 : Int) q' C2 F' X' ⟨m'.cs ++ [y], m'.fs, m'.xs⟩ V2) := hide (by
                obtain ⟨k1, k2, k3, k4, k5⟩ := unhide HW8
                refine unhide HFIN _ ?_ ?_ ?_ ?_ ?_
                · rw [← unhide HW9]; exact own_five (unhide HFL) k1 (.int .i64 x0) (.int .i64 x1) (.string x2) (.slice al ll cl) (.slice ak mm ck)
                · rw [← unhide HW9, five5_other _ _ _ _ _ _ _ _ _ (Ne.symm hne7), k5]; rfl
                · intro b h1 h2; rw [← unhide HW9, five5_other _ _ _ _ _ _ _ _ _ h2]; exact k2 b h1
                · rw [← unhide HW9, five5_size]; exact k3
                · rw [← unhide HW9]; exact five5_below k4 (by have := ((unhide H7).1.lt g7 rfl).1; have := (unhide HRW).two; omega) (.int .i64 x0) (.int .i64 x1) (.string x2) (.slice al ll cl) (.slice ak mm ck))
              obtain ⟨C2, V2, H11⟩ := unhide H10
              obtain ⟨_, _, _, _, _, o1, _, _⟩ := H11.rd.cells
              have o2 := H11.rd.cells.2.1
              have H12 := hide (H11.beside ((Beside.refl _ _).set (f := 1) (v := .int .i64 nx)) (H11.rd.setAt nx))
              have HS9 := hide (next_q (q' := q') (m2 := ⟨m'.cs ++ [y], m'.fs, m'.xs⟩) (b5 := nx) (f5 := (0 : Int)) (q5 := q') hlt (unhide HN) (unhide HEX))
              have HL9 : Hid ((m'.cs ++ [y]).length ≤ 100 + (i + 1)) := hide (by rw [List.length_append, List.length_singleton]; have := unhide HL; omega)
              have HI9 : Hid (i + 1 ≤ n) := hide (by omega)
              clear H10 H11
              go_wp2_with fail
              go_roundw
              case rel => exact ⟨i + 1, ⟨m'.cs ++ [y], m'.fs, m'.xs⟩, nx, (0 : Int), q', C2, F', X', V2, by go_num, HI9, H12, HL9, HS9⟩
              case measure => have := unhide HI9; simp [intOf]; omega
          · have HEX : Hid (match rdC bs m' a' with | .error p => ¬ p.1 = 0 ∧ ((91 : Int), (nx : Int)) = p | .ok (m1, a1) => (nx, (91 : Int), (nx : Int)) = (a1, 0, q') ∧ m1 = ⟨m'.cs ++ [y], m'.fs, m'.xs⟩) := hide (by rw [unhide HE, if_neg (by decide)]; exact ⟨by simp, by simp⟩)
            have CW := hide (wrong_q gr (.slice bo e bc) a' q' 91 nx wc (unhide HR9).rd)
            go_wp2_with fail
            refine (unhide CW).mono ?_
            rintro x wd ⟨rfl, rw1, bw1⟩
            have HRA := hide ((unhide HR9).beside bw1 rw1)
            have HB9 : Hid (RcT Y wr wd gb (.int .i64 x0) (.int .i64 x1) (.string x2) (.slice al ll cl) (.slice ak mm ck)) := hide ⟨(bw1.block gb (lt_of_row (unhide HT9).row) (by have := (unhide HT9).low; have := unhide HGW; omega)).trans (unhide HT9).row, (unhide HT9).low, Nat.le_trans (unhide HT9).size bw1.size, (unhide HKY) _ _ _ _ gr _ (unhide HT9).said (Nat.le_refl _) (Or.inl (unhide HGW)) bw1.size (fun b hb hne => bw1.block b hb hne)⟩
            clear rw1 bw1 CW e0 e1 e2 e3
            go_upto_region 9 with fail
            have HS0 : Hid (wd.drew.cell? ⟨gm, 0, none⟩ = some (.slice aC nk cC) ∧ wd.drew.heap[gb]? = some (.cells #[.int .i64 x0, .int .i64 x1, .string x2, .slice al ll cl, .slice ak mm ck] 51 (0, 0))) := hide ⟨(row_cell3 (unhide HRA).box).1, (unhide HB9).row⟩
            refine tilt_begin (S := fun u => u.cell? ⟨gm, 0, none⟩ = some (.slice aC nk cC) ∧ u.heap[gb]? = some (.cells #[.int .i64 x0, .int .i64 x1, .string x2, .slice al ll cl, .slice ak mm ck] 51 (0, 0))) 12 (by kernel_rfl) ?_
            obtain ⟨w2, hw2⟩ : ∃ w2, wd.drew = w2 := ⟨_, rfl⟩
            have HB2 : Hid (Below wd.heap.size wd w2) := hide (by rw [← hw2]; exact (Below.refl _ _).drew)
            rw [hw2] at HS0 ⊢
            clear hw2
            refine tilt_take 0 (v := .pointer (some ⟨gm, 0, none⟩)) (some 46) (by decide) rfl rfl rfl (by kernel_rfl) (by kernel_rfl) (by kernel_rfl) (by kernel_rfl) (fun _ _ _ h => h) (Or.inl ⟨by rfl, fun u hu => by obtain ⟨c3, hb⟩ := hu; obtain ⟨d0, d1, d2, d3, d4⟩ := row_cell hb; go_simp⟩) (unhide HS0) ?_
            try simp only [Act.put, List.setIfInBounds_toArray, List.set_cons_zero, List.set_cons_succ]
            refine tilt_take 1 (v := .pointer (some ⟨gm, 0, none⟩)) (some 47) (by decide) rfl rfl rfl (by kernel_rfl) (by kernel_rfl) (by kernel_rfl) (by kernel_rfl) (fun _ _ _ h => h) (Or.inl ⟨by rfl, fun u hu => by obtain ⟨c3, hb⟩ := hu; obtain ⟨d0, d1, d2, d3, d4⟩ := row_cell hb; go_simp⟩) (unhide HS0) ?_
            try simp only [Act.put, List.setIfInBounds_toArray, List.set_cons_zero, List.set_cons_succ]
            refine tilt_take 2 (v := .pointer (some ⟨gm, 0, none⟩)) (some 48) (by decide) rfl rfl rfl (by kernel_rfl) (by kernel_rfl) (by kernel_rfl) (by kernel_rfl) (fun _ _ _ h => h) (Or.inl ⟨by rfl, fun u hu => by obtain ⟨c3, hb⟩ := hu; obtain ⟨d0, d1, d2, d3, d4⟩ := row_cell hb; go_simp⟩) (unhide HS0) ?_
            try simp only [Act.put, List.setIfInBounds_toArray, List.set_cons_zero, List.set_cons_succ]
            refine tilt_take 3 (v := .slice aC nk cC) (some 49) (by decide) rfl rfl rfl (by kernel_rfl) (by kernel_rfl) (by kernel_rfl) (by kernel_rfl) (fun _ _ _ h => h) (Or.inl ⟨by rfl, fun u hu => by obtain ⟨c3, hb⟩ := hu; obtain ⟨d0, d1, d2, d3, d4⟩ := row_cell hb; go_simp⟩) (unhide HS0) ?_
            try simp only [Act.put, List.setIfInBounds_toArray, List.set_cons_zero, List.set_cons_succ]
            refine tilt_take 4 (v := .agg #[.int .i64 x0, .int .i64 x1, .string x2, .slice al ll cl, .slice ak mm ck]) (some 50) (by decide) rfl rfl rfl (by kernel_rfl) (by kernel_rfl) (by kernel_rfl) (by kernel_rfl) (fun _ _ _ h => h) (Or.inl ⟨by rfl, fun u hu => by obtain ⟨c3, hb⟩ := hu; obtain ⟨d0, d1, d2, d3, d4⟩ := row_cell hb; go_simp⟩) (unhide HS0) ?_
            try simp only [Act.put, List.setIfInBounds_toArray, List.set_cons_zero, List.set_cons_succ]
            refine tilt_take 5 (v := .int .i64 (nk : Int)) (some 51) (by decide) rfl rfl rfl (by kernel_rfl) (by kernel_rfl) (by kernel_rfl) (by kernel_rfl) (fun _ _ _ h => h) (Or.inl ⟨by rfl, fun u hu => by obtain ⟨c3, hb⟩ := hu; obtain ⟨d0, d1, d2, d3, d4⟩ := row_cell hb; go_simp⟩) (unhide HS0) ?_
            try simp only [Act.put, List.setIfInBounds_toArray, List.set_cons_zero, List.set_cons_succ]
            refine tilt_one 6 (by decide) (by kernel_rfl) rfl (fun K hK => ?_)
            go_simp
            obtain ⟨g6, hg6⟩ : ∃ g6, w2.heap.size = g6 := ⟨_, rfl⟩
            obtain ⟨wa, hwa⟩ : ∃ wa, w2.alloc (.cells #[.int .i64 0, .int .i64 0, .string ⟨#[]⟩, .slice none 0 0, .slice none 0 0] 51) = wa := ⟨_, rfl⟩
            have HA : Hid (wa.heap[g6]? = some (.cells #[.int .i64 0, .int .i64 0, .string ⟨#[]⟩, .slice none 0 0, .slice none 0 0] 51 (0, 0)) ∧ Below wd.heap.size wd wa ∧ wa.cell? ⟨gm, 0, none⟩ = some (.slice aC nk cC) ∧ wa.heap[gb]? = some (.cells #[.int .i64 x0, .int .i64 x1, .string x2, .slice al ll cl, .slice ak mm ck] 51 (0, 0))) := hide (by
              have q : Below w2.heap.size w2 wa := by rw [← hwa]; exact (Below.refl _ _).alloc (Nat.le_refl _) _
              refine ⟨by rw [← hwa, ← hg6]; exact heap_alloc_new w2 _, (unhide HB2).trans (q.mono (unhide HB2).size), cell_later q (unhide HS0).1, (q.block gb (lt_of_row (unhide HS0).2)).trans (unhide HS0).2⟩)
            have HRW := hide ((unhide HRA).later (unhide HA).2.1)
            rw [hg6, hwa]
            refine hK.out _ _ (unhide HA).2.2 ?_
            clear hK K hwa hg6
            try simp only [Act.put, List.setIfInBounds_toArray, List.set_cons_zero, List.set_cons_succ]
            obtain ⟨iv, hiv, hz0, hz1, hz2⟩ := info_parts infoVv
            have HI := hide (And.intro hiv (And.intro hz0 (And.intro hz1 hz2)))
            clear hiv hz0 hz1 hz2
            have HOW : Hid (wa.ownsRow (gr + 1) 51 5 (.slice aC nk cC) nk (flat V' nk)) := hide (by have := (unhide HRW).ownC; rw [unhide HNk] at this; exact this)
            have hbs : gr + 1 ≤ wa.heap.size := (unhide HRW).lt
            have HGB : Hid (∀ b, (Value.slice aC nk cC).ownBlock = some b → gr + 1 ≤ b ∧ b < wr.heap.size) := hide (fun b hb => ⟨((unhide HOW).lt b hb).1, (unhide HLW) b hb⟩)
            refine tilt_one 7 (by decide) (by kernel_rfl) rfl (fun K hK => ?_)
            refine step_append_lies _ (by rfl) _ _ 24 (by rfl) (gr + 1) 51 iv (.agg #[.int .i64 0, .int .i64 0, .string ⟨#[]⟩, .slice none 0 0, .slice none 0 0]) 5 80 Try.underlying24 (unhide HI).1 (unhide HI).2.1 (unhide HI).2.2.1 (unhide HI).2.2.2 rfl (by omega) (.slice aC nk cC) nk (flat V' nk) (by rfl) (unhide HOW) ⟨g6, 0, none⟩ 1 1 [.int .i64 0, .int .i64 0, .string ⟨#[]⟩, .slice none 0 0, .slice none 0 0] (by rfl) (by rfl) (World.news_of_block (unhide HA).1) (by simp [Value.oneCell']) (by omega) (by unfold maxLen; omega) (by omega) hbs _ rfl ?_
            intro g7 cap7 w7 hown7 hgrow7 hat7 hlt7
            change K (Act.put _ (some 53) _) w7
            have HF7 : Hid (∀ b, b < wa.heap.size → some b ≠ (Value.slice aC nk cC).ownBlock → w7.heap[b]? = wa.heap[b]?) := hide (fun b hb hn => hgrow7.block b hb hn)
            have hgr7 : w7.heap[gm]? = wa.heap[gm]? := unhide HF7 gm (lt_of_row (unhide HRW).box) (fun e => by have := ((unhide HGB) gm e.symm).1; have := (unhide HRW).two; omega)
            have hgb7 : w7.heap[gb]? = wa.heap[gb]? := unhide HF7 gb (lt_of_row (unhide HA).2.2.2) (fun e => by have := ((unhide HGB) gb e.symm).2; have := (unhide HB9).low; omega)
            have HS7 : Hid (w7.cell? ⟨gm, 0, none⟩ = some (.slice aC nk cC) ∧ w7.heap[gb]? = some (.cells #[.int .i64 x0, .int .i64 x1, .string x2, .slice al ll cl, .slice ak mm ck] 51 (0, 0))) := hide ⟨(row_cell3 (hgr7.trans (unhide HRW).box)).1, hgb7.trans (unhide HA).2.2.2⟩
            have H7 := hide (And.intro hown7 (And.intro hgrow7 (And.intro hat7 hlt7)))
            have HGR7 := hide (hgr7.trans (unhide HRW).box)
            refine hK.out _ _ (unhide HS7) ?_
            clear hK K hown7 hgrow7 hat7 hlt7 hgr7 hgb7
            try simp only [Act.put, List.setIfInBounds_toArray, List.set_cons_zero, List.set_cons_succ]
            have j9 : (nk : Int) < (nk : Int) + 1 := by omega
            refine tilt_takeU 8 (v := .pointer (some ⟨g7, nk * 5, none⟩)) (some 54) (by decide) rfl rfl (by kernel_rfl) (by kernel_rfl) (by kernel_rfl) (fun _ _ _ h => h) (Or.inl ⟨by rfl, fun u => by go_simp⟩) (unhide HS7) ?_
            try simp only [Act.put, List.setIfInBounds_toArray, List.set_cons_zero, List.set_cons_succ]
            refine tilt_takeU 10 (v := .pointer (some ⟨gm, 0, none⟩)) (some 55) (by decide) rfl rfl (by kernel_rfl) (by kernel_rfl) (by kernel_rfl) (fun _ _ _ h => h) (Or.inl ⟨by rfl, fun u => by go_simp⟩) (unhide HS7) ?_
            try simp only [Act.put, List.setIfInBounds_toArray, List.set_cons_zero, List.set_cons_succ]
            refine tilt_takeU 11 (v := .pointer (some ⟨gm, 0, none⟩)) (some 56) (by decide) rfl rfl (by kernel_rfl) (by kernel_rfl) (by kernel_rfl) (fun _ _ _ h => h) (Or.inl ⟨by rfl, fun u => by go_simp⟩) (unhide HS7) ?_
            try simp only [Act.put, List.setIfInBounds_toArray, List.set_cons_zero, List.set_cons_succ]
            have HFL : Hid ((flat V' nk).length = nk * 5) := hide (flat_len V' nk (fun j hj => (unhide HRA).row j (by have := unhide HNk; omega)))
            have hrow7 : ∃ cur, w7.heap[g7]? = some (.cells cur 51 (0, 0)) := by
              rcases (unhide H7).1.2 with ⟨e1, _⟩ | ⟨g, cap', cur, e1, _, hg, _⟩
              · cases e1
              · cases e1; exact ⟨cur, hg⟩
            obtain ⟨cur7, hcur7⟩ := hrow7
            have r0 : w7.cell? ⟨g7, nk * 5, none⟩ = some (.int .i64 0) := by
              have q := (unhide H7).1.cells (g := g7) rfl (nk * 5) (.int .i64 0) (by rw [List.getElem?_append_right (by rw [unhide HFL]; omega), unhide HFL]; simp)
              have ha : (⟨g7, 0, none⟩ : Addr).add (nk * 5) = ⟨g7, nk * 5, none⟩ := by unfold Addr.add; split <;> simp_all
              rw [ha] at q
              exact q
            have q0 : w7.frozen? ⟨g7, nk * 5, none⟩ = false := frozen_of_row w7 g7 (nk * 5) _ _ hcur7
            have r1 : w7.cell? ⟨g7, nk * 5 + 1, none⟩ = some (.int .i64 0) := by
              have q := (unhide H7).1.cells (g := g7) rfl (nk * 5 + 1) (.int .i64 0) (by rw [List.getElem?_append_right (by rw [unhide HFL]; omega), unhide HFL]; simp)
              have ha : (⟨g7, 0, none⟩ : Addr).add (nk * 5 + 1) = ⟨g7, nk * 5 + 1, none⟩ := by unfold Addr.add; split <;> simp_all
              rw [ha] at q
              exact q
            have q1 : w7.frozen? ⟨g7, nk * 5 + 1, none⟩ = false := frozen_of_row w7 g7 (nk * 5 + 1) _ _ hcur7
            have r2 : w7.cell? ⟨g7, nk * 5 + 2, none⟩ = some (.string ⟨#[]⟩) := by
              have q := (unhide H7).1.cells (g := g7) rfl (nk * 5 + 2) (.string ⟨#[]⟩) (by rw [List.getElem?_append_right (by rw [unhide HFL]; omega), unhide HFL]; simp)
              have ha : (⟨g7, 0, none⟩ : Addr).add (nk * 5 + 2) = ⟨g7, nk * 5 + 2, none⟩ := by unfold Addr.add; split <;> simp_all
              rw [ha] at q
              exact q
            have q2 : w7.frozen? ⟨g7, nk * 5 + 2, none⟩ = false := frozen_of_row w7 g7 (nk * 5 + 2) _ _ hcur7
            have r3 : w7.cell? ⟨g7, nk * 5 + 3, none⟩ = some (.slice none 0 0) := by
              have q := (unhide H7).1.cells (g := g7) rfl (nk * 5 + 3) (.slice none 0 0) (by rw [List.getElem?_append_right (by rw [unhide HFL]; omega), unhide HFL]; simp)
              have ha : (⟨g7, 0, none⟩ : Addr).add (nk * 5 + 3) = ⟨g7, nk * 5 + 3, none⟩ := by unfold Addr.add; split <;> simp_all
              rw [ha] at q
              exact q
            have q3 : w7.frozen? ⟨g7, nk * 5 + 3, none⟩ = false := frozen_of_row w7 g7 (nk * 5 + 3) _ _ hcur7
            have r4 : w7.cell? ⟨g7, nk * 5 + 4, none⟩ = some (.slice none 0 0) := by
              have q := (unhide H7).1.cells (g := g7) rfl (nk * 5 + 4) (.slice none 0 0) (by rw [List.getElem?_append_right (by rw [unhide HFL]; omega), unhide HFL]; simp)
              have ha : (⟨g7, 0, none⟩ : Addr).add (nk * 5 + 4) = ⟨g7, nk * 5 + 4, none⟩ := by unfold Addr.add; split <;> simp_all
              rw [ha] at q
              exact q
            have q4 : w7.frozen? ⟨g7, nk * 5 + 4, none⟩ = false := frozen_of_row w7 g7 (nk * 5 + 4) _ _ hcur7
            have hne7 : g7 ≠ gm := fun e => by have := ((unhide H7).1.lt g7 rfl).1; have := (unhide HRW).two; omega
            have s3 : w7.cell? ⟨gm, 0, none⟩ = some (.slice aC nk cC) := (unhide HS7).1
            have t3 : w7.frozen? ⟨gm, 0, none⟩ = false := frozen_of_row w7 gm 0 _ _ (unhide HGR7)
            have HGB7 : Hid (gb ≠ g7) := hide (fun e => by
              rcases (unhide H7).2.2.1 with q | q
              · have := ((unhide HGB) g7 q).2; have := (unhide HB9).low; omega
              · have := lt_of_row (unhide HA).2.2.2; omega)
            have HFIN : Hid (∀ w9, w9.ownsRow (gr + 1) 51 5 (.slice (some ⟨g7, 0, none⟩) (nk + 1) cap7) (nk + 1) (flat V' nk ++ [.int .i64 x0, .int .i64 x1, .string x2, .slice al ll cl, .slice ak mm ck]) → w9.heap[gm]? = some (.cells #[(.slice (some ⟨g7, 0, none⟩) (nk + 1) cap7), F', X'] 28 (0, 0)) → (∀ b, b ≠ gm → b ≠ g7 → w9.heap[b]? = w7.heap[b]?) → w9.heap.size = w7.heap.size → Below gm w7 w9 → ∃ C2 V2, RdQ w0 w9 gm gr (.slice bo e bc) (a' : Nat) (91 : Int) (nx : Int) C2 F' X' ⟨m'.cs ++ [y], m'.fs, m'.xs⟩ V2) := hide (fun w9 k1 k2 k3 k4 k5 => by
              have hgw := unhide HGW
              have hB7 : Below gm wa w7 := (Below.refl _ _).grown (unhide H7).2.1 (by have := (unhide HRW).lt; have := (unhide HRW).two; omega) (fun k e => by have := ((unhide HGB) k e).1; have := (unhide HRW).two; omega)
              have hat : (Value.slice aC nk cC).ownBlock = some g7 ∨ wa.heap.size ≤ g7 := by
                rcases (unhide H7).2.2.1 with q | q
                · exact Or.inl q
                · exact Or.inr (by omega)
              have hIP := (show IsQ wd (fun b => wr.heap.size ≤ b ∧ b < wd.heap.size) y (.agg #[.int .i64 x0, .int .i64 x1, .string x2, .slice al ll cl, .slice ak mm ck]) from by have h := (unhide HB9).said; rw [← unhide HYd] at h; exact h)
              have hIP2 := IsQ.to (w' := wa) (Q := fun b => wr.heap.size ≤ b ∧ b < wa.heap.size) (fun b hb => (unhide HA).2.1.block b hb.2) (fun b hb => ⟨hb.1, Nat.lt_of_lt_of_le hb.2 (unhide HA).2.1.size⟩) hIP
              exact ⟨_, _, (unhide HRW).pushD (lo := wr.heap.size) (unhide HNk) (unhide HF7) (unhide H7).2.1.size hB7 hat k1 k2 k3 k4 k5 rfl hIP2 (fun b hb => ((unhide HGB) b hb).2) (fun b hb => (unhide HLF) b hb) (fun b hb => (unhide HLX) b hb) hgw⟩)
            refine tilt_two 9 (by decide) (by kernel_rfl) rfl rfl (fun K hK => ?_) (fun K hK => ?_)
            · go_simp
              change K _ (five5 w7 g7 (nk * 5) (.int .i64 x0) (.int .i64 x1) (.string x2) (.slice al ll cl) (.slice ak mm ck))
              have o8 := own_five (unhide HFL) (unhide H7).1 (.int .i64 x0) (.int .i64 x1) (.string x2) (.slice al ll cl) (.slice ak mm ck)
              have e8 := fun q hq => five5_other w7 g7 (nk * 5) q (.int .i64 x0) (.int .i64 x1) (.string x2) (.slice al ll cl) (.slice ak mm ck) hq
              have z8 := five5_size w7 g7 (nk * 5) (.int .i64 x0) (.int .i64 x1) (.string x2) (.slice al ll cl) (.slice ak mm ck)
              have b8 := five5_below (o := nk * 5) (Below.refl gm w7) (show gm ≤ g7 by have := ((unhide H7).1.lt g7 rfl).1; have := (unhide HRW).two; omega) (.int .i64 x0) (.int .i64 x1) (.string x2) (.slice al ll cl) (.slice ak mm ck)
              obtain ⟨w8, hw8⟩ : ∃ w8, five5 w7 g7 (nk * 5) (.int .i64 x0) (.int .i64 x1) (.string x2) (.slice al ll cl) (.slice ak mm ck) = w8 := ⟨_, rfl⟩
              rw [hw8] at o8 e8 z8 b8 ⊢
              have HW8 := hide (And.intro o8 (And.intro e8 (And.intro z8 b8)))
              have HGR8 : Hid (w8.heap[gm]? = some (.cells #[.slice aC nk cC, F', X'] 28 (0, 0))) := hide ((e8 gm (Ne.symm hne7)).trans (unhide HGR7))
              have s8 : w8.cell? ⟨gm, 0, none⟩ = some (.slice aC nk cC) := (row_cell3 (unhide HGR8)).1
              have t8 : w8.frozen? ⟨gm, 0, none⟩ = false := frozen_of_row w8 gm 0 _ _ (unhide HGR8)
              refine hK.out _ _ ⟨s8, (e8 gb (unhide HGB7)).trans (unhide HS7).2⟩ ?_
              clear hK K hw8 o8 e8 z8 b8
              try simp only [Act.put, List.setIfInBounds_toArray, List.set_cons_zero, List.set_cons_succ]
              refine tilt_last (by kernel_rfl) rfl (fun K hK => ?_)
              go_simp
              refine hK.out _ _ ?_
              clear hK K
              try simp only [Act.put, List.setIfInBounds_toArray, List.set_cons_zero, List.set_cons_succ]
              refine any_done (by kernel_rfl) ?_ _
              have H10 : Hid (∃ C2 V2, RdQ w0 (w8.setCell ⟨gm, 0, none⟩ (.slice (some ⟨g7, 0, none⟩) (nk + 1) cap7)) gm gr (.slice bo e bc) (a' : Nat) (91 : Int) (nx : Int) C2 F' X' ⟨m'.cs ++ [y], m'.fs, m'.xs⟩ V2) := hide (by
                obtain ⟨k1, k2, k3, k4⟩ := unhide HW8
                refine unhide HFIN _ ?_ ?_ ?_ ?_ ?_
                · exact own_later k1 (fun b _ hv => by rw [heap_setCell_other _ _ _ _ (by rw [← own_sl hv]; exact hne7)])
                · rw [heap_setCell_same w8 gm 0 _ _ _ (unhide HGR8)]; rfl
                · intro b h1 h2; rw [heap_setCell_other _ _ _ _ (by simpa using h1)]; exact k2 b h2
                · simpa using k3
                · exact k4.setCell (p := ⟨gm, 0, none⟩) (Nat.le_refl _) _)
              obtain ⟨C2, V2, H11⟩ := unhide H10
              obtain ⟨_, _, _, _, _, o1, _, _⟩ := H11.rd.cells
              have o2 := H11.rd.cells.2.1
              have H12 := hide (H11.beside ((Beside.refl _ _).set (f := 1) (v := .int .i64 nx)) (H11.rd.setAt nx))
              have HS9 := hide (next_q (q' := q') (m2 := ⟨m'.cs ++ [y], m'.fs, m'.xs⟩) (b5 := nx) (f5 := (91 : Int)) (q5 := (nx : Int)) hlt (unhide HN) (unhide HEX))
              have HL9 : Hid ((m'.cs ++ [y]).length ≤ 100 + (i + 1)) := hide (by rw [List.length_append, List.length_singleton]; have := unhide HL; omega)
              have HI9 : Hid (i + 1 ≤ n) := hide (by omega)
              clear H10 H11
              go_wp2_with fail
              go_roundw
              case rel => exact ⟨i + 1, ⟨m'.cs ++ [y], m'.fs, m'.xs⟩, nx, (91 : Int), (nx : Int), C2, F', X', V2, by go_num, HI9, H12, HL9, HS9⟩
              case measure => have := unhide HI9; simp [intOf]; omega
            · go_simp
              have e8 := fun q (hq : q ≠ gm) => heap_setCell_other w7 ⟨gm, 0, none⟩ q (.slice (some ⟨g7, 0, none⟩) (nk + 1) cap7) hq
              have g8 := heap_setCell_same w7 gm 0 _ _ (.slice (some ⟨g7, 0, none⟩) (nk + 1) cap7) (unhide HGR7)
              have z8 : (w7.setCell ⟨gm, 0, none⟩ (.slice (some ⟨g7, 0, none⟩) (nk + 1) cap7)).heap.size = w7.heap.size := by simp
              have b8 := (Below.refl gm w7).setCell (p := ⟨gm, 0, none⟩) (Nat.le_refl _) (.slice (some ⟨g7, 0, none⟩) (nk + 1) cap7)
              have o8 : (w7.setCell ⟨gm, 0, none⟩ (.slice (some ⟨g7, 0, none⟩) (nk + 1) cap7)).ownsRow (gr + 1) 51 5 (.slice (some ⟨g7, 0, none⟩) (nk + 1) cap7) (nk + 1) (flat V' nk ++ [.int .i64 0, .int .i64 0, .string ⟨#[]⟩, .slice none 0 0, .slice none 0 0]) := own_later (unhide H7).1 (fun b _ hv => by rw [heap_setCell_other _ _ _ _ (by rw [← own_sl hv]; exact hne7)])
              obtain ⟨w8, hw8⟩ : ∃ w8, w7.setCell ⟨gm, 0, none⟩ (.slice (some ⟨g7, 0, none⟩) (nk + 1) cap7) = w8 := ⟨_, rfl⟩
              rw [hw8] at e8 g8 z8 b8 o8 ⊢
              have HW8 := hide (And.intro o8 (And.intro e8 (And.intro z8 (And.intro b8 g8))))
              have rr0 := (World.cell?_of_block (a := ⟨g7, nk * 5, none⟩) (e8 g7 hne7)).trans r0
              have qq0 : w8.frozen? ⟨g7, nk * 5, none⟩ = false := frozen_of_row w8 g7 (nk * 5) _ _ ((e8 g7 hne7).trans hcur7)
              have rr1 := (World.cell?_of_block (a := ⟨g7, nk * 5 + 1, none⟩) (e8 g7 hne7)).trans r1
              have qq1 : w8.frozen? ⟨g7, nk * 5 + 1, none⟩ = false := frozen_of_row w8 g7 (nk * 5 + 1) _ _ ((e8 g7 hne7).trans hcur7)
              have rr2 := (World.cell?_of_block (a := ⟨g7, nk * 5 + 2, none⟩) (e8 g7 hne7)).trans r2
              have qq2 : w8.frozen? ⟨g7, nk * 5 + 2, none⟩ = false := frozen_of_row w8 g7 (nk * 5 + 2) _ _ ((e8 g7 hne7).trans hcur7)
              have rr3 := (World.cell?_of_block (a := ⟨g7, nk * 5 + 3, none⟩) (e8 g7 hne7)).trans r3
              have qq3 : w8.frozen? ⟨g7, nk * 5 + 3, none⟩ = false := frozen_of_row w8 g7 (nk * 5 + 3) _ _ ((e8 g7 hne7).trans hcur7)
              have rr4 := (World.cell?_of_block (a := ⟨g7, nk * 5 + 4, none⟩) (e8 g7 hne7)).trans r4
              have qq4 : w8.frozen? ⟨g7, nk * 5 + 4, none⟩ = false := frozen_of_row w8 g7 (nk * 5 + 4) _ _ ((e8 g7 hne7).trans hcur7)
              refine hK.out _ _ ?_
              clear hK K hw8 o8 e8 z8 b8 g8
              try simp only [Act.put, List.setIfInBounds_toArray, List.set_cons_zero, List.set_cons_succ]
              refine any_one 9 (by kernel_rfl) rfl (fun K hK => ?_)
              go_simp
              change K _ (five5 w8 g7 (nk * 5) (.int .i64 x0) (.int .i64 x1) (.string x2) (.slice al ll cl) (.slice ak mm ck))
              obtain ⟨w9, hw9⟩ : ∃ w9, five5 w8 g7 (nk * 5) (.int .i64 x0) (.int .i64 x1) (.string x2) (.slice al ll cl) (.slice ak mm ck) = w9 := ⟨_, rfl⟩
              rw [hw9]
              have HW9 := hide hw9
              refine hK.out _ _ ?_
              clear hK K hw9
              try simp only [Act.put, List.setIfInBounds_toArray, List.set_cons_zero, List.set_cons_succ]
              refine any_done (by kernel_rfl) ?_ _
              have H10 : Hid (∃ C2 V2, RdQ w0 w9 gm gr (.slice bo e bc) (a' : Nat) (91 : Int) (nx : Int) C2 F' X' ⟨m'.cs ++ [y], m'.fs, m'.xs⟩ V2) := hide (by
                obtain ⟨k1, k2, k3, k4, k5⟩ := unhide HW8
                refine unhide HFIN _ ?_ ?_ ?_ ?_ ?_
                · rw [← unhide HW9]; exact own_five (unhide HFL) k1 (.int .i64 x0) (.int .i64 x1) (.string x2) (.slice al ll cl) (.slice ak mm ck)
                · rw [← unhide HW9, five5_other _ _ _ _ _ _ _ _ _ (Ne.symm hne7), k5]; rfl
                · intro b h1 h2; rw [← unhide HW9, five5_other _ _ _ _ _ _ _ _ _ h2]; exact k2 b h1
                · rw [← unhide HW9, five5_size]; exact k3
                · rw [← unhide HW9]; exact five5_below k4 (by have := ((unhide H7).1.lt g7 rfl).1; have := (unhide HRW).two; omega) (.int .i64 x0) (.int .i64 x1) (.string x2) (.slice al ll cl) (.slice ak mm ck))
              obtain ⟨C2, V2, H11⟩ := unhide H10
              obtain ⟨_, _, _, _, _, o1, _, _⟩ := H11.rd.cells
              have o2 := H11.rd.cells.2.1
              have H12 := hide (H11.beside ((Beside.refl _ _).set (f := 1) (v := .int .i64 nx)) (H11.rd.setAt nx))
              have HS9 := hide (next_q (q' := q') (m2 := ⟨m'.cs ++ [y], m'.fs, m'.xs⟩) (b5 := nx) (f5 := (91 : Int)) (q5 := (nx : Int)) hlt (unhide HN) (unhide HEX))
              have HL9 : Hid ((m'.cs ++ [y]).length ≤ 100 + (i + 1)) := hide (by rw [List.length_append, List.length_singleton]; have := unhide HL; omega)
              have HI9 : Hid (i + 1 ≤ n) := hide (by omega)
              clear H10 H11
              go_wp2_with fail
              go_roundw
              case rel => exact ⟨i + 1, ⟨m'.cs ++ [y], m'.fs, m'.xs⟩, nx, (91 : Int), (nx : Int), C2, F', X', V2, by go_num, HI9, H12, HL9, HS9⟩
              case measure => have := unhide HI9; simp [intOf]; omega
          · have HEX : Hid (match rdC bs m' a' with | .error p => ¬ p.1 = 0 ∧ ((92 : Int), (nx : Int)) = p | .ok (m1, a1) => (nx, (92 : Int), (nx : Int)) = (a1, 0, q') ∧ m1 = ⟨m'.cs ++ [y], m'.fs, m'.xs⟩) := hide (by rw [unhide HE, if_neg (by decide)]; exact ⟨by simp, by simp⟩)
            have CW := hide (wrong_q gr (.slice bo e bc) a' q' 92 nx wc (unhide HR9).rd)
            go_wp2_with fail
            refine (unhide CW).mono ?_
            rintro x wd ⟨rfl, rw1, bw1⟩
            have HRA := hide ((unhide HR9).beside bw1 rw1)
            have HB9 : Hid (RcT Y wr wd gb (.int .i64 x0) (.int .i64 x1) (.string x2) (.slice al ll cl) (.slice ak mm ck)) := hide ⟨(bw1.block gb (lt_of_row (unhide HT9).row) (by have := (unhide HT9).low; have := unhide HGW; omega)).trans (unhide HT9).row, (unhide HT9).low, Nat.le_trans (unhide HT9).size bw1.size, (unhide HKY) _ _ _ _ gr _ (unhide HT9).said (Nat.le_refl _) (Or.inl (unhide HGW)) bw1.size (fun b hb hne => bw1.block b hb hne)⟩
            have CK := hide (wrong_k gr (.slice bo e bc) a' 92 nx 91 nx wd rw1 (by decide))
            clear rw1 bw1 CW e0 e1 e2 e3
            go_wp2_with fail
            refine (unhide CK).mono ?_
            rintro x wd2 ⟨rfl, hwd2⟩
            rw [hwd2]
            clear CK hwd2
            go_upto_region 9 with fail
            have HS0 : Hid (wd.drew.cell? ⟨gm, 0, none⟩ = some (.slice aC nk cC) ∧ wd.drew.heap[gb]? = some (.cells #[.int .i64 x0, .int .i64 x1, .string x2, .slice al ll cl, .slice ak mm ck] 51 (0, 0))) := hide ⟨(row_cell3 (unhide HRA).box).1, (unhide HB9).row⟩
            refine tilt_begin (S := fun u => u.cell? ⟨gm, 0, none⟩ = some (.slice aC nk cC) ∧ u.heap[gb]? = some (.cells #[.int .i64 x0, .int .i64 x1, .string x2, .slice al ll cl, .slice ak mm ck] 51 (0, 0))) 12 (by kernel_rfl) ?_
            obtain ⟨w2, hw2⟩ : ∃ w2, wd.drew = w2 := ⟨_, rfl⟩
            have HB2 : Hid (Below wd.heap.size wd w2) := hide (by rw [← hw2]; exact (Below.refl _ _).drew)
            rw [hw2] at HS0 ⊢
            clear hw2
            refine tilt_take 0 (v := .pointer (some ⟨gm, 0, none⟩)) (some 46) (by decide) rfl rfl rfl (by kernel_rfl) (by kernel_rfl) (by kernel_rfl) (by kernel_rfl) (fun _ _ _ h => h) (Or.inl ⟨by rfl, fun u hu => by obtain ⟨c3, hb⟩ := hu; obtain ⟨d0, d1, d2, d3, d4⟩ := row_cell hb; go_simp⟩) (unhide HS0) ?_
            try simp only [Act.put, List.setIfInBounds_toArray, List.set_cons_zero, List.set_cons_succ]
            refine tilt_take 1 (v := .pointer (some ⟨gm, 0, none⟩)) (some 47) (by decide) rfl rfl rfl (by kernel_rfl) (by kernel_rfl) (by kernel_rfl) (by kernel_rfl) (fun _ _ _ h => h) (Or.inl ⟨by rfl, fun u hu => by obtain ⟨c3, hb⟩ := hu; obtain ⟨d0, d1, d2, d3, d4⟩ := row_cell hb; go_simp⟩) (unhide HS0) ?_
            try simp only [Act.put, List.setIfInBounds_toArray, List.set_cons_zero, List.set_cons_succ]
            refine tilt_take 2 (v := .pointer (some ⟨gm, 0, none⟩)) (some 48) (by decide) rfl rfl rfl (by kernel_rfl) (by kernel_rfl) (by kernel_rfl) (by kernel_rfl) (fun _ _ _ h => h) (Or.inl ⟨by rfl, fun u hu => by obtain ⟨c3, hb⟩ := hu; obtain ⟨d0, d1, d2, d3, d4⟩ := row_cell hb; go_simp⟩) (unhide HS0) ?_
            try simp only [Act.put, List.setIfInBounds_toArray, List.set_cons_zero, List.set_cons_succ]
            refine tilt_take 3 (v := .slice aC nk cC) (some 49) (by decide) rfl rfl rfl (by kernel_rfl) (by kernel_rfl) (by kernel_rfl) (by kernel_rfl) (fun _ _ _ h => h) (Or.inl ⟨by rfl, fun u hu => by obtain ⟨c3, hb⟩ := hu; obtain ⟨d0, d1, d2, d3, d4⟩ := row_cell hb; go_simp⟩) (unhide HS0) ?_
            try simp only [Act.put, List.setIfInBounds_toArray, List.set_cons_zero, List.set_cons_succ]
            refine tilt_take 4 (v := .agg #[.int .i64 x0, .int .i64 x1, .string x2, .slice al ll cl, .slice ak mm ck]) (some 50) (by decide) rfl rfl rfl (by kernel_rfl) (by kernel_rfl) (by kernel_rfl) (by kernel_rfl) (fun _ _ _ h => h) (Or.inl ⟨by rfl, fun u hu => by obtain ⟨c3, hb⟩ := hu; obtain ⟨d0, d1, d2, d3, d4⟩ := row_cell hb; go_simp⟩) (unhide HS0) ?_
            try simp only [Act.put, List.setIfInBounds_toArray, List.set_cons_zero, List.set_cons_succ]
            refine tilt_take 5 (v := .int .i64 (nk : Int)) (some 51) (by decide) rfl rfl rfl (by kernel_rfl) (by kernel_rfl) (by kernel_rfl) (by kernel_rfl) (fun _ _ _ h => h) (Or.inl ⟨by rfl, fun u hu => by obtain ⟨c3, hb⟩ := hu; obtain ⟨d0, d1, d2, d3, d4⟩ := row_cell hb; go_simp⟩) (unhide HS0) ?_
            try simp only [Act.put, List.setIfInBounds_toArray, List.set_cons_zero, List.set_cons_succ]
            refine tilt_one 6 (by decide) (by kernel_rfl) rfl (fun K hK => ?_)
            go_simp
            obtain ⟨g6, hg6⟩ : ∃ g6, w2.heap.size = g6 := ⟨_, rfl⟩
            obtain ⟨wa, hwa⟩ : ∃ wa, w2.alloc (.cells #[.int .i64 0, .int .i64 0, .string ⟨#[]⟩, .slice none 0 0, .slice none 0 0] 51) = wa := ⟨_, rfl⟩
            have HA : Hid (wa.heap[g6]? = some (.cells #[.int .i64 0, .int .i64 0, .string ⟨#[]⟩, .slice none 0 0, .slice none 0 0] 51 (0, 0)) ∧ Below wd.heap.size wd wa ∧ wa.cell? ⟨gm, 0, none⟩ = some (.slice aC nk cC) ∧ wa.heap[gb]? = some (.cells #[.int .i64 x0, .int .i64 x1, .string x2, .slice al ll cl, .slice ak mm ck] 51 (0, 0))) := hide (by
              have q : Below w2.heap.size w2 wa := by rw [← hwa]; exact (Below.refl _ _).alloc (Nat.le_refl _) _
              refine ⟨by rw [← hwa, ← hg6]; exact heap_alloc_new w2 _, (unhide HB2).trans (q.mono (unhide HB2).size), cell_later q (unhide HS0).1, (q.block gb (lt_of_row (unhide HS0).2)).trans (unhide HS0).2⟩)
            have HRW := hide ((unhide HRA).later (unhide HA).2.1)
            rw [hg6, hwa]
            refine hK.out _ _ (unhide HA).2.2 ?_
            clear hK K hwa hg6
            try simp only [Act.put, List.setIfInBounds_toArray, List.set_cons_zero, List.set_cons_succ]
            obtain ⟨iv, hiv, hz0, hz1, hz2⟩ := info_parts infoVv
            have HI := hide (And.intro hiv (And.intro hz0 (And.intro hz1 hz2)))
            clear hiv hz0 hz1 hz2
            have HOW : Hid (wa.ownsRow (gr + 1) 51 5 (.slice aC nk cC) nk (flat V' nk)) := hide (by have := (unhide HRW).ownC; rw [unhide HNk] at this; exact this)
            have hbs : gr + 1 ≤ wa.heap.size := (unhide HRW).lt
            have HGB : Hid (∀ b, (Value.slice aC nk cC).ownBlock = some b → gr + 1 ≤ b ∧ b < wr.heap.size) := hide (fun b hb => ⟨((unhide HOW).lt b hb).1, (unhide HLW) b hb⟩)
            refine tilt_one 7 (by decide) (by kernel_rfl) rfl (fun K hK => ?_)
            refine step_append_lies _ (by rfl) _ _ 24 (by rfl) (gr + 1) 51 iv (.agg #[.int .i64 0, .int .i64 0, .string ⟨#[]⟩, .slice none 0 0, .slice none 0 0]) 5 80 Try.underlying24 (unhide HI).1 (unhide HI).2.1 (unhide HI).2.2.1 (unhide HI).2.2.2 rfl (by omega) (.slice aC nk cC) nk (flat V' nk) (by rfl) (unhide HOW) ⟨g6, 0, none⟩ 1 1 [.int .i64 0, .int .i64 0, .string ⟨#[]⟩, .slice none 0 0, .slice none 0 0] (by rfl) (by rfl) (World.news_of_block (unhide HA).1) (by simp [Value.oneCell']) (by omega) (by unfold maxLen; omega) (by omega) hbs _ rfl ?_
            intro g7 cap7 w7 hown7 hgrow7 hat7 hlt7
            change K (Act.put _ (some 53) _) w7
            have HF7 : Hid (∀ b, b < wa.heap.size → some b ≠ (Value.slice aC nk cC).ownBlock → w7.heap[b]? = wa.heap[b]?) := hide (fun b hb hn => hgrow7.block b hb hn)
            have hgr7 : w7.heap[gm]? = wa.heap[gm]? := unhide HF7 gm (lt_of_row (unhide HRW).box) (fun e => by have := ((unhide HGB) gm e.symm).1; have := (unhide HRW).two; omega)
            have hgb7 : w7.heap[gb]? = wa.heap[gb]? := unhide HF7 gb (lt_of_row (unhide HA).2.2.2) (fun e => by have := ((unhide HGB) gb e.symm).2; have := (unhide HB9).low; omega)
            have HS7 : Hid (w7.cell? ⟨gm, 0, none⟩ = some (.slice aC nk cC) ∧ w7.heap[gb]? = some (.cells #[.int .i64 x0, .int .i64 x1, .string x2, .slice al ll cl, .slice ak mm ck] 51 (0, 0))) := hide ⟨(row_cell3 (hgr7.trans (unhide HRW).box)).1, hgb7.trans (unhide HA).2.2.2⟩
            have H7 := hide (And.intro hown7 (And.intro hgrow7 (And.intro hat7 hlt7)))
            have HGR7 := hide (hgr7.trans (unhide HRW).box)
            refine hK.out _ _ (unhide HS7) ?_
            clear hK K hown7 hgrow7 hat7 hlt7 hgr7 hgb7
            try simp only [Act.put, List.setIfInBounds_toArray, List.set_cons_zero, List.set_cons_succ]
            have j9 : (nk : Int) < (nk : Int) + 1 := by omega
            refine tilt_takeU 8 (v := .pointer (some ⟨g7, nk * 5, none⟩)) (some 54) (by decide) rfl rfl (by kernel_rfl) (by kernel_rfl) (by kernel_rfl) (fun _ _ _ h => h) (Or.inl ⟨by rfl, fun u => by go_simp⟩) (unhide HS7) ?_
            try simp only [Act.put, List.setIfInBounds_toArray, List.set_cons_zero, List.set_cons_succ]
            refine tilt_takeU 10 (v := .pointer (some ⟨gm, 0, none⟩)) (some 55) (by decide) rfl rfl (by kernel_rfl) (by kernel_rfl) (by kernel_rfl) (fun _ _ _ h => h) (Or.inl ⟨by rfl, fun u => by go_simp⟩) (unhide HS7) ?_
            try simp only [Act.put, List.setIfInBounds_toArray, List.set_cons_zero, List.set_cons_succ]
            refine tilt_takeU 11 (v := .pointer (some ⟨gm, 0, none⟩)) (some 56) (by decide) rfl rfl (by kernel_rfl) (by kernel_rfl) (by kernel_rfl) (fun _ _ _ h => h) (Or.inl ⟨by rfl, fun u => by go_simp⟩) (unhide HS7) ?_
            try simp only [Act.put, List.setIfInBounds_toArray, List.set_cons_zero, List.set_cons_succ]
            have HFL : Hid ((flat V' nk).length = nk * 5) := hide (flat_len V' nk (fun j hj => (unhide HRA).row j (by have := unhide HNk; omega)))
            have hrow7 : ∃ cur, w7.heap[g7]? = some (.cells cur 51 (0, 0)) := by
              rcases (unhide H7).1.2 with ⟨e1, _⟩ | ⟨g, cap', cur, e1, _, hg, _⟩
              · cases e1
              · cases e1; exact ⟨cur, hg⟩
            obtain ⟨cur7, hcur7⟩ := hrow7
            have r0 : w7.cell? ⟨g7, nk * 5, none⟩ = some (.int .i64 0) := by
              have q := (unhide H7).1.cells (g := g7) rfl (nk * 5) (.int .i64 0) (by rw [List.getElem?_append_right (by rw [unhide HFL]; omega), unhide HFL]; simp)
              have ha : (⟨g7, 0, none⟩ : Addr).add (nk * 5) = ⟨g7, nk * 5, none⟩ := by unfold Addr.add; split <;> simp_all
              rw [ha] at q
              exact q
            have q0 : w7.frozen? ⟨g7, nk * 5, none⟩ = false := frozen_of_row w7 g7 (nk * 5) _ _ hcur7
            have r1 : w7.cell? ⟨g7, nk * 5 + 1, none⟩ = some (.int .i64 0) := by
              have q := (unhide H7).1.cells (g := g7) rfl (nk * 5 + 1) (.int .i64 0) (by rw [List.getElem?_append_right (by rw [unhide HFL]; omega), unhide HFL]; simp)
              have ha : (⟨g7, 0, none⟩ : Addr).add (nk * 5 + 1) = ⟨g7, nk * 5 + 1, none⟩ := by unfold Addr.add; split <;> simp_all
              rw [ha] at q
              exact q
            have q1 : w7.frozen? ⟨g7, nk * 5 + 1, none⟩ = false := frozen_of_row w7 g7 (nk * 5 + 1) _ _ hcur7
            have r2 : w7.cell? ⟨g7, nk * 5 + 2, none⟩ = some (.string ⟨#[]⟩) := by
              have q := (unhide H7).1.cells (g := g7) rfl (nk * 5 + 2) (.string ⟨#[]⟩) (by rw [List.getElem?_append_right (by rw [unhide HFL]; omega), unhide HFL]; simp)
              have ha : (⟨g7, 0, none⟩ : Addr).add (nk * 5 + 2) = ⟨g7, nk * 5 + 2, none⟩ := by unfold Addr.add; split <;> simp_all
              rw [ha] at q
              exact q
            have q2 : w7.frozen? ⟨g7, nk * 5 + 2, none⟩ = false := frozen_of_row w7 g7 (nk * 5 + 2) _ _ hcur7
            have r3 : w7.cell? ⟨g7, nk * 5 + 3, none⟩ = some (.slice none 0 0) := by
              have q := (unhide H7).1.cells (g := g7) rfl (nk * 5 + 3) (.slice none 0 0) (by rw [List.getElem?_append_right (by rw [unhide HFL]; omega), unhide HFL]; simp)
              have ha : (⟨g7, 0, none⟩ : Addr).add (nk * 5 + 3) = ⟨g7, nk * 5 + 3, none⟩ := by unfold Addr.add; split <;> simp_all
              rw [ha] at q
              exact q
            have q3 : w7.frozen? ⟨g7, nk * 5 + 3, none⟩ = false := frozen_of_row w7 g7 (nk * 5 + 3) _ _ hcur7
            have r4 : w7.cell? ⟨g7, nk * 5 + 4, none⟩ = some (.slice none 0 0) := by
              have q := (unhide H7).1.cells (g := g7) rfl (nk * 5 + 4) (.slice none 0 0) (by rw [List.getElem?_append_right (by rw [unhide HFL]; omega), unhide HFL]; simp)
              have ha : (⟨g7, 0, none⟩ : Addr).add (nk * 5 + 4) = ⟨g7, nk * 5 + 4, none⟩ := by unfold Addr.add; split <;> simp_all
              rw [ha] at q
              exact q
            have q4 : w7.frozen? ⟨g7, nk * 5 + 4, none⟩ = false := frozen_of_row w7 g7 (nk * 5 + 4) _ _ hcur7
            have hne7 : g7 ≠ gm := fun e => by have := ((unhide H7).1.lt g7 rfl).1; have := (unhide HRW).two; omega
            have s3 : w7.cell? ⟨gm, 0, none⟩ = some (.slice aC nk cC) := (unhide HS7).1
            have t3 : w7.frozen? ⟨gm, 0, none⟩ = false := frozen_of_row w7 gm 0 _ _ (unhide HGR7)
            have HGB7 : Hid (gb ≠ g7) := hide (fun e => by
              rcases (unhide H7).2.2.1 with q | q
              · have := ((unhide HGB) g7 q).2; have := (unhide HB9).low; omega
              · have := lt_of_row (unhide HA).2.2.2; omega)
            have HFIN : Hid (∀ w9, w9.ownsRow (gr + 1) 51 5 (.slice (some ⟨g7, 0, none⟩) (nk + 1) cap7) (nk + 1) (flat V' nk ++ [.int .i64 x0, .int .i64 x1, .string x2, .slice al ll cl, .slice ak mm ck]) → w9.heap[gm]? = some (.cells #[(.slice (some ⟨g7, 0, none⟩) (nk + 1) cap7), F', X'] 28 (0, 0)) → (∀ b, b ≠ gm → b ≠ g7 → w9.heap[b]? = w7.heap[b]?) → w9.heap.size = w7.heap.size → Below gm w7 w9 → ∃ C2 V2, RdQ w0 w9 gm gr (.slice bo e bc) (a' : Nat) (92 : Int) (nx : Int) C2 F' X' ⟨m'.cs ++ [y], m'.fs, m'.xs⟩ V2) := hide (fun w9 k1 k2 k3 k4 k5 => by
              have hgw := unhide HGW
              have hB7 : Below gm wa w7 := (Below.refl _ _).grown (unhide H7).2.1 (by have := (unhide HRW).lt; have := (unhide HRW).two; omega) (fun k e => by have := ((unhide HGB) k e).1; have := (unhide HRW).two; omega)
              have hat : (Value.slice aC nk cC).ownBlock = some g7 ∨ wa.heap.size ≤ g7 := by
                rcases (unhide H7).2.2.1 with q | q
                · exact Or.inl q
                · exact Or.inr (by omega)
              have hIP := (show IsQ wd (fun b => wr.heap.size ≤ b ∧ b < wd.heap.size) y (.agg #[.int .i64 x0, .int .i64 x1, .string x2, .slice al ll cl, .slice ak mm ck]) from by have h := (unhide HB9).said; rw [← unhide HYd] at h; exact h)
              have hIP2 := IsQ.to (w' := wa) (Q := fun b => wr.heap.size ≤ b ∧ b < wa.heap.size) (fun b hb => (unhide HA).2.1.block b hb.2) (fun b hb => ⟨hb.1, Nat.lt_of_lt_of_le hb.2 (unhide HA).2.1.size⟩) hIP
              exact ⟨_, _, (unhide HRW).pushD (lo := wr.heap.size) (unhide HNk) (unhide HF7) (unhide H7).2.1.size hB7 hat k1 k2 k3 k4 k5 rfl hIP2 (fun b hb => ((unhide HGB) b hb).2) (fun b hb => (unhide HLF) b hb) (fun b hb => (unhide HLX) b hb) hgw⟩)
            refine tilt_two 9 (by decide) (by kernel_rfl) rfl rfl (fun K hK => ?_) (fun K hK => ?_)
            · go_simp
              change K _ (five5 w7 g7 (nk * 5) (.int .i64 x0) (.int .i64 x1) (.string x2) (.slice al ll cl) (.slice ak mm ck))
              have o8 := own_five (unhide HFL) (unhide H7).1 (.int .i64 x0) (.int .i64 x1) (.string x2) (.slice al ll cl) (.slice ak mm ck)
              have e8 := fun q hq => five5_other w7 g7 (nk * 5) q (.int .i64 x0) (.int .i64 x1) (.string x2) (.slice al ll cl) (.slice ak mm ck) hq
              have z8 := five5_size w7 g7 (nk * 5) (.int .i64 x0) (.int .i64 x1) (.string x2) (.slice al ll cl) (.slice ak mm ck)
              have b8 := five5_below (o := nk * 5) (Below.refl gm w7) (show gm ≤ g7 by have := ((unhide H7).1.lt g7 rfl).1; have := (unhide HRW).two; omega) (.int .i64 x0) (.int .i64 x1) (.string x2) (.slice al ll cl) (.slice ak mm ck)
              obtain ⟨w8, hw8⟩ : ∃ w8, five5 w7 g7 (nk * 5) (.int .i64 x0) (.int .i64 x1) (.string x2) (.slice al ll cl) (.slice ak mm ck) = w8 := ⟨_, rfl⟩
              rw [hw8] at o8 e8 z8 b8 ⊢
              have HW8 := hide (And.intro o8 (And.intro e8 (And.intro z8 b8)))
              have HGR8 : Hid (w8.heap[gm]? = some (.cells #[.slice aC nk cC, F', X'] 28 (0, 0))) := hide ((e8 gm (Ne.symm hne7)).trans (unhide HGR7))
              have s8 : w8.cell? ⟨gm, 0, none⟩ = some (.slice aC nk cC) := (row_cell3 (unhide HGR8)).1
              have t8 : w8.frozen? ⟨gm, 0, none⟩ = false := frozen_of_row w8 gm 0 _ _ (unhide HGR8)
              refine hK.out _ _ ⟨s8, (e8 gb (unhide HGB7)).trans (unhide HS7).2⟩ ?_
              clear hK K hw8 o8 e8 z8 b8
              try simp only [Act.put, List.setIfInBounds_toArray, List.set_cons_zero, List.set_cons_succ]
              refine tilt_last (by kernel_rfl) rfl (fun K hK => ?_)
              go_simp
              refine hK.out _ _ ?_
              clear hK K
              try simp only [Act.put, List.setIfInBounds_toArray, List.set_cons_zero, List.set_cons_succ]
              refine any_done (by kernel_rfl) ?_ _
              have H10 : Hid (∃ C2 V2, RdQ w0 (w8.setCell ⟨gm, 0, none⟩ (.slice (some ⟨g7, 0, none⟩) (nk + 1) cap7)) gm gr (.slice bo e bc) (a' : Nat) (92 : Int) (nx : Int) C2 F' X' ⟨m'.cs ++ [y], m'.fs, m'.xs⟩ V2) := hide (by
                obtain ⟨k1, k2, k3, k4⟩ := unhide HW8
                refine unhide HFIN _ ?_ ?_ ?_ ?_ ?_
                · exact own_later k1 (fun b _ hv => by rw [heap_setCell_other _ _ _ _ (by rw [← own_sl hv]; exact hne7)])
                · rw [heap_setCell_same w8 gm 0 _ _ _ (unhide HGR8)]; rfl
                · intro b h1 h2; rw [heap_setCell_other _ _ _ _ (by simpa using h1)]; exact k2 b h2
                · simpa using k3
                · exact k4.setCell (p := ⟨gm, 0, none⟩) (Nat.le_refl _) _)
              obtain ⟨C2, V2, H11⟩ := unhide H10
              obtain ⟨_, _, _, _, _, o1, _, _⟩ := H11.rd.cells
              have o2 := H11.rd.cells.2.1
              have H12 := hide (H11.beside ((Beside.refl _ _).set (f := 1) (v := .int .i64 nx)) (H11.rd.setAt nx))
              have HS9 := hide (next_q (q' := q') (m2 := ⟨m'.cs ++ [y], m'.fs, m'.xs⟩) (b5 := nx) (f5 := (92 : Int)) (q5 := (nx : Int)) hlt (unhide HN) (unhide HEX))
              have HL9 : Hid ((m'.cs ++ [y]).length ≤ 100 + (i + 1)) := hide (by rw [List.length_append, List.length_singleton]; have := unhide HL; omega)
              have HI9 : Hid (i + 1 ≤ n) := hide (by omega)
              clear H10 H11
              go_wp2_with fail
              go_roundw
              case rel => exact ⟨i + 1, ⟨m'.cs ++ [y], m'.fs, m'.xs⟩, nx, (92 : Int), (nx : Int), C2, F', X', V2, by go_num, HI9, H12, HL9, HS9⟩
              case measure => have := unhide HI9; simp [intOf]; omega
            · go_simp
              have e8 := fun q (hq : q ≠ gm) => heap_setCell_other w7 ⟨gm, 0, none⟩ q (.slice (some ⟨g7, 0, none⟩) (nk + 1) cap7) hq
              have g8 := heap_setCell_same w7 gm 0 _ _ (.slice (some ⟨g7, 0, none⟩) (nk + 1) cap7) (unhide HGR7)
              have z8 : (w7.setCell ⟨gm, 0, none⟩ (.slice (some ⟨g7, 0, none⟩) (nk + 1) cap7)).heap.size = w7.heap.size := by simp
              have b8 := (Below.refl gm w7).setCell (p := ⟨gm, 0, none⟩) (Nat.le_refl _) (.slice (some ⟨g7, 0, none⟩) (nk + 1) cap7)
              have o8 : (w7.setCell ⟨gm, 0, none⟩ (.slice (some ⟨g7, 0, none⟩) (nk + 1) cap7)).ownsRow (gr + 1) 51 5 (.slice (some ⟨g7, 0, none⟩) (nk + 1) cap7) (nk + 1) (flat V' nk ++ [.int .i64 0, .int .i64 0, .string ⟨#[]⟩, .slice none 0 0, .slice none 0 0]) := own_later (unhide H7).1 (fun b _ hv => by rw [heap_setCell_other _ _ _ _ (by rw [← own_sl hv]; exact hne7)])
              obtain ⟨w8, hw8⟩ : ∃ w8, w7.setCell ⟨gm, 0, none⟩ (.slice (some ⟨g7, 0, none⟩) (nk + 1) cap7) = w8 := ⟨_, rfl⟩
              rw [hw8] at e8 g8 z8 b8 o8 ⊢
              have HW8 := hide (And.intro o8 (And.intro e8 (And.intro z8 (And.intro b8 g8))))
              have rr0 := (World.cell?_of_block (a := ⟨g7, nk * 5, none⟩) (e8 g7 hne7)).trans r0
              have qq0 : w8.frozen? ⟨g7, nk * 5, none⟩ = false := frozen_of_row w8 g7 (nk * 5) _ _ ((e8 g7 hne7).trans hcur7)
              have rr1 := (World.cell?_of_block (a := ⟨g7, nk * 5 + 1, none⟩) (e8 g7 hne7)).trans r1
              have qq1 : w8.frozen? ⟨g7, nk * 5 + 1, none⟩ = false := frozen_of_row w8 g7 (nk * 5 + 1) _ _ ((e8 g7 hne7).trans hcur7)
              have rr2 := (World.cell?_of_block (a := ⟨g7, nk * 5 + 2, none⟩) (e8 g7 hne7)).trans r2
              have qq2 : w8.frozen? ⟨g7, nk * 5 + 2, none⟩ = false := frozen_of_row w8 g7 (nk * 5 + 2) _ _ ((e8 g7 hne7).trans hcur7)
              have rr3 := (World.cell?_of_block (a := ⟨g7, nk * 5 + 3, none⟩) (e8 g7 hne7)).trans r3
              have qq3 : w8.frozen? ⟨g7, nk * 5 + 3, none⟩ = false := frozen_of_row w8 g7 (nk * 5 + 3) _ _ ((e8 g7 hne7).trans hcur7)
              have rr4 := (World.cell?_of_block (a := ⟨g7, nk * 5 + 4, none⟩) (e8 g7 hne7)).trans r4
              have qq4 : w8.frozen? ⟨g7, nk * 5 + 4, none⟩ = false := frozen_of_row w8 g7 (nk * 5 + 4) _ _ ((e8 g7 hne7).trans hcur7)
              refine hK.out _ _ ?_
              clear hK K hw8 o8 e8 z8 b8 g8
              try simp only [Act.put, List.setIfInBounds_toArray, List.set_cons_zero, List.set_cons_succ]
              refine any_one 9 (by kernel_rfl) rfl (fun K hK => ?_)
              go_simp
              change K _ (five5 w8 g7 (nk * 5) (.int .i64 x0) (.int .i64 x1) (.string x2) (.slice al ll cl) (.slice ak mm ck))
              obtain ⟨w9, hw9⟩ : ∃ w9, five5 w8 g7 (nk * 5) (.int .i64 x0) (.int .i64 x1) (.string x2) (.slice al ll cl) (.slice ak mm ck) = w9 := ⟨_, rfl⟩
              rw [hw9]
              have HW9 := hide hw9
              refine hK.out _ _ ?_
              clear hK K hw9
              try simp only [Act.put, List.setIfInBounds_toArray, List.set_cons_zero, List.set_cons_succ]
              refine any_done (by kernel_rfl) ?_ _
              have H10 : Hid (∃ C2 V2, RdQ w0 w9 gm gr (.slice bo e bc) (a' : Nat) (92 : Int) (nx : Int) C2 F' X' ⟨m'.cs ++ [y], m'.fs, m'.xs⟩ V2) := hide (by
                obtain ⟨k1, k2, k3, k4, k5⟩ := unhide HW8
                refine unhide HFIN _ ?_ ?_ ?_ ?_ ?_
                · rw [← unhide HW9]; exact own_five (unhide HFL) k1 (.int .i64 x0) (.int .i64 x1) (.string x2) (.slice al ll cl) (.slice ak mm ck)
                · rw [← unhide HW9, five5_other _ _ _ _ _ _ _ _ _ (Ne.symm hne7), k5]; rfl
                · intro b h1 h2; rw [← unhide HW9, five5_other _ _ _ _ _ _ _ _ _ h2]; exact k2 b h1
                · rw [← unhide HW9, five5_size]; exact k3
                · rw [← unhide HW9]; exact five5_below k4 (by have := ((unhide H7).1.lt g7 rfl).1; have := (unhide HRW).two; omega) (.int .i64 x0) (.int .i64 x1) (.string x2) (.slice al ll cl) (.slice ak mm ck))
              obtain ⟨C2, V2, H11⟩ := unhide H10
              obtain ⟨_, _, _, _, _, o1, _, _⟩ := H11.rd.cells
              have o2 := H11.rd.cells.2.1
              have H12 := hide (H11.beside ((Beside.refl _ _).set (f := 1) (v := .int .i64 nx)) (H11.rd.setAt nx))
              have HS9 := hide (next_q (q' := q') (m2 := ⟨m'.cs ++ [y], m'.fs, m'.xs⟩) (b5 := nx) (f5 := (92 : Int)) (q5 := (nx : Int)) hlt (unhide HN) (unhide HEX))
              have HL9 : Hid ((m'.cs ++ [y]).length ≤ 100 + (i + 1)) := hide (by rw [List.length_append, List.length_singleton]; have := unhide HL; omega)
              have HI9 : Hid (i + 1 ≤ n) := hide (by omega)
              clear H10 H11
              go_wp2_with fail
              go_roundw
              case rel => exact ⟨i + 1, ⟨m'.cs ++ [y], m'.fs, m'.xs⟩, nx, (92 : Int), (nx : Int), C2, F', X', V2, by go_num, HI9, H12, HL9, HS9⟩
              case measure => have := unhide HI9; simp [intOf]; omega
      -- ROUND END
      · have HR' := hide (show R = .error (f', q') by
          rcases unhide HS with h | h
          · exact absurd h.1 hf
          · exact h.2)
        go_wp2_with fail
        go_end0
        refine ⟨rfl, ?_⟩
        rw [unhide HR']
        exact ⟨hf, _, _, _, _, _, _, unhide HM⟩
    · have j1 : ¬ (i : Int) < (n : Int) := by omega
      have HI2 := hide (show n - i = 0 by omega)
      go_wp2_with fail
      go_end0
      refine ⟨rfl, ?_⟩
      rcases unhide HS with ⟨h1, h2, h3⟩ | ⟨h1, h2⟩
      · rw [unhide HI2, rdN] at h3
        rw [← h3]
        have := unhide HM
        rw [h1, h2] at this
        exact ⟨_, _, _, _, this⟩
      · rw [h2]
        exact ⟨h1, _, _, _, _, _, _, unhide HM⟩
end Go.Proofs.Ytfdnhpmldnmncaa

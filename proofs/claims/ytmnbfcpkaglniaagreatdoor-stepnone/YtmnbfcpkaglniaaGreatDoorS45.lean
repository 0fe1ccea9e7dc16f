/-
  Layer 15 (step): enter of the first function of a machine that has no frame; no conditions.
-/
import Derived.Test.YtmnbfcpkaglniaaGreatDoorS44
import Derived.Deep.CutRange
set_option linter.unusedVariables false
set_option linter.unusedSimpArgs false
namespace Go.Proofs.YtmnbfcpkaglniaaGreatDoor
open Go.RowKit
set_option linter.unusedVariables false
set_option linter.unusedSimpArgs false
theorem infoF4 : (Tryz.prog.info? 67).map (fun i => (i.zero, i.size, i.bytes)) = some (some (.agg #[.int .i64 0, .int .i64 0, .slice none 0 0, .slice none 0 0]), 4, 64) := by kernel_rfl
theorem Hid.mk' {p : Prop} (h : p) : Hid p := hide h
/-- append of one element onto none, at a step of a region that draws -/
theorem step_own {w : World} {ops : Array Oper} {o : Oper} {a : Act} {K : Act → World → Prop} {Q' : Exit → Act → World → Prop} {E : Prop} (hgd : o.guard = none) (sl x : Operand) (t e : TypeId) (i : TypeInfo) (z : Value) (size bytes : Nat)
    (ho : o.op = .call { callee := .builtin .append, args := #[sl, x], argTypes := #[t, t] }) (ht : Tryz.prog.underlying t = some (.slice e)) (hi : Tryz.prog.info? e = some i) (hz : i.zero = some z) (hsize : i.size = size) (hby : i.bytes = bytes) (hzs : z.cells.size = size) (hsz : 0 < size)
    (hs : a.eval sl = .slice none 0 0) (ad : Addr) (cc : Nat) (news : List Value) (hx : a.eval x = .slice (some ad) 1 cc) (hl : news.length = 1 * size) (hnews : ∀ j u, news[j]? = some u → w.cell? (ad.add j) = some u) (h1 : ∀ u ∈ news, u.oneCell' = true) (hb8 : 1 * bytes ≤ 140737488355328)
    (h : ∀ v' w', Hid (w'.ownsRow w.heap.size e size v' 1 news ∧ Below w.heap.size w w') → K (a.put o.dst v') w') :
    if Region.wanted o (yielded ops a.tmps) = true then Oper.wp Tryz.prog o a w K Q' else E := by
  have hw : Region.wanted o (yielded ops a.tmps) = true := by simp [Region.wanted, hgd]
  rw [if_pos hw]
  obtain ⟨v', w', hrun, own, gr, _⟩ := run_append_own (P := Tryz.prog) w w.heap.size t o.type e i z size bytes ht hi hz hsize hby hzs hsz (.slice none 0 0) 0 [] (World.ownsRow_nil _ _ _ _) ad 1 cc news hl hnews h1 (by unfold maxLen; omega) (by omega) (Nat.le_refl _)
  unfold Oper.wp
  simp only [execOp, ho, resolve, invoke, builtin, Sem.run_bind, Sem.run_pure, Result.andThen_ok, List.map_toArray, List.map_cons, List.map_nil, hs, hx, hrun]
  exact h v' w' (hide ⟨by simpa using own, below_grown' gr⟩)
theorem three_a (w : World) (A B C : Obj) : (((w.alloc A).alloc B).alloc C).drew.heap[w.heap.size]? = some A := by
  show (((w.alloc A).alloc B).alloc C).heap[w.heap.size]? = some A
  rw [heap_alloc_old _ _ (by simp; omega), heap_alloc_old _ _ (by simp)]
  exact heap_alloc_new _ _
theorem three_b (w : World) (A B C : Obj) : (((w.alloc A).alloc B).alloc C).drew.heap[w.heap.size + 1]? = some B := by
  show (((w.alloc A).alloc B).alloc C).heap[w.heap.size + 1]? = some B
  rw [heap_alloc_old _ _ (by simp)]
  have h := heap_alloc_new (w.alloc A) B
  simpa using h
theorem three_c (w : World) (A B C : Obj) : (((w.alloc A).alloc B).alloc C).drew.heap[w.heap.size + 1 + 1]? = some C := by
  show (((w.alloc A).alloc B).alloc C).heap[w.heap.size + 1 + 1]? = some C
  have h := heap_alloc_new ((w.alloc A).alloc B) C
  simpa using h
theorem three_below (w : World) (A B C : Obj) : Below w.heap.size w (((w.alloc A).alloc B).alloc C).drew :=
  ((((Below.refl _ _).alloc (Nat.le_refl _) A).alloc (by simp) B).alloc (by simp; omega) C).drew
theorem copy_none (a : Nat) (w : World) : (Builtin.copy_ #[26, 26] 3 #[.slice (some ⟨a, 0, none⟩) 0 0, .slice none 0 0]).run Tryz.prog w = .ok (.int .i64 0) w := by kernel_rfl
theorem make_none (w : World) : (Instr.makeSlice 26 (.int .i64 0) (.int .i64 0)).run Tryz.prog w = .ok (.slice (some ⟨w.heap.size, 0, none⟩) 0 0) (w.alloc (.cells #[] 29)) := by kernel_rfl
theorem make_one (w : World) : (Instr.makeSlice 26 (.int .i64 0) (.int .i64 1)).run Tryz.prog w = .ok (.slice (some ⟨w.heap.size, 0, none⟩) 0 1) (w.alloc (.cells #[.int .i64 0, .int .i64 0, .string ⟨#[]⟩, .slice none 0 0, .slice none 0 0] 29)) := by kernel_rfl
set_option maxRecDepth 100000 in
set_option maxHeartbeats 8000000 in
theorem enter_one {w : World} {q f fc g : Nat} {C S : Value} {b bc : Nat} {zf : List Value} (hfc : 1 ≤ fc)
    (hq : w.heap[q]? = some (.cells (rnC C (.slice (some ⟨f, 0, none⟩) 1 fc) S (.slice none 0 0) g 0) 62 (0, 0)))
    (hf : w.heap[f]? = some (.cells (.int .i64 0 :: .int .i64 0 :: .int .i64 1 :: .slice (some ⟨b, 0, none⟩) 3 bc :: zf).toArray 92 (0, 0))) : Calls Tryz.prog 31 #[.pointer (some ⟨q, 0, none⟩), .int .i64 0, .slice none 0 0] w fun e w' => e = .returned (.tuple #[]) ∧ ∃ r rc t L z, w.heap.size ≤ r ∧ w.heap.size ≤ t ∧ 1 ≤ rc ∧ w'.heap[q]? = some (.cells (rnC C (.slice (some ⟨f, 0, none⟩) 1 fc) S (.slice (some ⟨r, 0, none⟩) 1 rc) g 0) 62 (0, 0)) ∧
      w'.heap[r]? = some (.cells (.int .i64 0 :: .int .i64 0 :: L :: .slice (some ⟨t, 0, none⟩) 0 1 :: z).toArray 67 (0, 0)) ∧ w'.heap[t]? = some (.cells #[.int .i64 0, .int .i64 0, .string ⟨#[]⟩, .slice none 0 0, .slice none 0 0] 29 (0, 0)) ∧ Bes (fun k => k = q) w w' := by
  obtain ⟨c0, c1, c2, c3, c4, c5⟩ := rn_cells hq
  obtain ⟨f0, f1, f2, f3⟩ := four_cells hf
  have HQ := hide hq
  clear hq hf
  go_enter Tryz.func31, Tryz.ntmps31
  go_upto_region 1 with fail
  obtain ⟨w1, hw1⟩ : ∃ u, w.alloc (.cells #[.int .i64 0, .int .i64 0, .int .i64 1, .slice (some ⟨b, 0, none⟩) 3 bc] 92) = u := ⟨_, rfl⟩
  have q1 : w1.heap[w.heap.size]? = some (.cells #[.int .i64 0, .int .i64 0, .int .i64 1, .slice (some ⟨b, 0, none⟩) 3 bc] 92 (0, 0)) := by rw [← hw1]; exact heap_alloc_new _ _
  obtain ⟨G, hG⟩ : ∃ G, w.heap.size = G := ⟨_, rfl⟩
  rw [hw1]
  rw [hG] at q1 ⊢
  obtain ⟨y0, y1, y2, y3⟩ := four_cells (z := []) q1
  have hm0 := make_none
  have hm1 := make_one
  have hlt := lt_of_row q1
  go_cut [7] from 15 to 22 (fun x u => ∃ r t a, x = .pointer (some ⟨r, 0, none⟩) ∧ Hid (u.heap[r]? = some (.cells #[.int .i64 0, .int .i64 0, .slice (some ⟨a, 0, none⟩) 0 0, .slice (some ⟨t, 0, none⟩) 0 1] 67 (0, 0)) ∧ u.heap[t]? = some (.cells #[.int .i64 0, .int .i64 0, .string ⟨#[]⟩, .slice none 0 0, .slice none 0 0] 29 (0, 0)) ∧ w1.heap.size ≤ r ∧ w1.heap.size ≤ t ∧ Below w1.heap.size w1 u))
  case first =>
    go_region
    all_goals
      try go_wp2_with fail
      go_meet
      first | exact ⟨w1.heap.size, (w1.heap.size + 1), (w1.heap.size + 1 + 1), rfl, Hid.mk' ⟨three_a _ _ _ _, three_b _ _ _ _, by omega, by omega, three_below _ _ _ _⟩⟩ | exact ⟨w1.heap.size, (w1.heap.size + 1 + 1), (w1.heap.size + 1), rfl, Hid.mk' ⟨three_a _ _ _ _, three_c _ _ _ _, by omega, by omega, three_below _ _ _ _⟩⟩ | exact ⟨(w1.heap.size + 1), w1.heap.size, (w1.heap.size + 1 + 1), rfl, Hid.mk' ⟨three_b _ _ _ _, three_a _ _ _ _, by omega, by omega, three_below _ _ _ _⟩⟩ | exact ⟨(w1.heap.size + 1), (w1.heap.size + 1 + 1), w1.heap.size, rfl, Hid.mk' ⟨three_b _ _ _ _, three_c _ _ _ _, by omega, by omega, three_below _ _ _ _⟩⟩ | exact ⟨(w1.heap.size + 1 + 1), w1.heap.size, (w1.heap.size + 1), rfl, Hid.mk' ⟨three_c _ _ _ _, three_a _ _ _ _, by omega, by omega, three_below _ _ _ _⟩⟩ | exact ⟨(w1.heap.size + 1 + 1), (w1.heap.size + 1), w1.heap.size, rfl, Hid.mk' ⟨three_c _ _ _ _, three_b _ _ _ _, by omega, by omega, three_below _ _ _ _⟩⟩
  case rest =>
    obtain ⟨r, t, a, rfl, HX⟩ := hcut
    have hw1s : w.heap.size ≤ w1.heap.size := by rw [← hw1]; simp
    have B0 : Hid (Below w.heap.size w wc) := hide ((by rw [← hw1]; exact (Below.refl _ _).alloc (Nat.le_refl _) _ : Below w.heap.size w w1).trans ((unhide HX).2.2.2.2.mono hw1s))
    have htw : w.heap.size ≤ t := Nat.le_trans hw1s (unhide HX).2.2.2.1
    have hqc := ((unhide B0).block q (lt_of_row (unhide HQ))).trans (unhide HQ)
    have hrc0 := (unhide HX).1
    have htc := (unhide HX).2.1
    have HF : Hid (∀ u, Below wc.heap.size wc u → (u.cell? ⟨q, 0, none⟩ = some C ∧ u.cell? ⟨q, 1, none⟩ = some (.slice (some ⟨f, 0, none⟩) 1 fc) ∧ u.cell? ⟨q, 2, none⟩ = some S ∧ u.cell? ⟨q, 3, none⟩ = some (.pointer (some ⟨g, 0, none⟩)) ∧ u.cell? ⟨q, 4, none⟩ = some (.slice none 0 0) ∧ u.cell? ⟨q, 5, none⟩ = some (.int .i64 0)) ∧ u.cell? ⟨r, 0, none⟩ = some (.int .i64 0) ∧ u.cell? ⟨r, 1, none⟩ = some (.int .i64 0) ∧ u.cell? ⟨r, 2, none⟩ = some (.slice (some ⟨a, 0, none⟩) 0 0) ∧ u.cell? ⟨r, 3, none⟩ = some (.slice (some ⟨t, 0, none⟩) 0 1)) :=
      hide (fun u hu => ⟨rn_cells ((hu.block q (lt_of_row hqc)).trans hqc), four_cells (z := []) ((hu.block r (lt_of_row hrc0)).trans hrc0)⟩)
    clear c0 c1 c2 c3 c4 c5 f0 f1 f2 f3 q1 y0 y1 y2 y3 hm0 hm1 hlt HX hw1s hw1
    obtain ⟨r0, r1, r2, r3⟩ := four_cells (z := []) hrc0
    have hcp := copy_none a
    go_upto_region 3 with fail
    clear r0 r1 r2 r3 hrc0 hcp
    have HS0 : Hid (Below wc.heap.size wc wc.drew) := hide ((Below.refl _ _).drew)
    refine till_begin (S := fun w' => Below wc.heap.size wc w') 10 (by kernel_rfl) ?_
    obtain ⟨W0, hW0⟩ : ∃ W0, wc.drew = W0 := ⟨_, rfl⟩
    try rw [hW0]
    rw [hW0] at HS0
    clear hW0
    refine till_take 0 (v := .pointer (some ⟨q, 0, none⟩)) (some 27) rfl rfl rfl (by kernel_rfl) (by kernel_rfl) (by kernel_rfl) (by kernel_rfl) (fun _ _ _ h => h) (Or.inl ⟨by rfl, fun u hu => by obtain ⟨⟨c0, c1, c2, c3, c4, c5⟩, r0, r1, r2, r3⟩ := unhide HF u hu; go_simp⟩) (unhide HS0) ?_
    try simp only [Act.put, List.setIfInBounds_toArray, List.set_cons_zero, List.set_cons_succ]
    refine till_take 1 (v := .pointer (some ⟨q, 0, none⟩)) (some 28) rfl rfl rfl (by kernel_rfl) (by kernel_rfl) (by kernel_rfl) (by kernel_rfl) (fun _ _ _ h => h) (Or.inl ⟨by rfl, fun u hu => by obtain ⟨⟨c0, c1, c2, c3, c4, c5⟩, r0, r1, r2, r3⟩ := unhide HF u hu; go_simp⟩) (unhide HS0) ?_
    try simp only [Act.put, List.setIfInBounds_toArray, List.set_cons_zero, List.set_cons_succ]
    refine till_take 2 (v := .pointer (some ⟨q, 0, none⟩)) (some 29) rfl rfl rfl (by kernel_rfl) (by kernel_rfl) (by kernel_rfl) (by kernel_rfl) (fun _ _ _ h => h) (Or.inl ⟨by rfl, fun u hu => by obtain ⟨⟨c0, c1, c2, c3, c4, c5⟩, r0, r1, r2, r3⟩ := unhide HF u hu; go_simp⟩) (unhide HS0) ?_
    try simp only [Act.put, List.setIfInBounds_toArray, List.set_cons_zero, List.set_cons_succ]
    refine till_take 3 (v := .pointer (some ⟨q, 4, none⟩)) (some 30) rfl rfl rfl (by kernel_rfl) (by kernel_rfl) (by kernel_rfl) (by kernel_rfl) (fun _ _ _ h => h) (Or.inl ⟨by rfl, fun u hu => by obtain ⟨⟨c0, c1, c2, c3, c4, c5⟩, r0, r1, r2, r3⟩ := unhide HF u hu; go_simp⟩) (unhide HS0) ?_
    try simp only [Act.put, List.setIfInBounds_toArray, List.set_cons_zero, List.set_cons_succ]
    refine till_take 4 (v := .slice none 0 0) (some 31) rfl rfl rfl (by kernel_rfl) (by kernel_rfl) (by kernel_rfl) (by kernel_rfl) (fun _ _ _ h => h) (Or.inl ⟨by rfl, fun u hu => by obtain ⟨⟨c0, c1, c2, c3, c4, c5⟩, r0, r1, r2, r3⟩ := unhide HF u hu; go_simp⟩) (unhide HS0) ?_
    try simp only [Act.put, List.setIfInBounds_toArray, List.set_cons_zero, List.set_cons_succ]
    refine till_take 5 (v := .agg #[.int .i64 0, .int .i64 0, .slice (some ⟨a, 0, none⟩) 0 0, .slice (some ⟨t, 0, none⟩) 0 1]) (some 32) rfl rfl rfl (by kernel_rfl) (by kernel_rfl) (by kernel_rfl) (by kernel_rfl) (fun _ _ _ h => h) (Or.inl ⟨by rfl, fun u hu => by obtain ⟨⟨c0, c1, c2, c3, c4, c5⟩, r0, r1, r2, r3⟩ := unhide HF u hu; go_simp⟩) (unhide HS0) ?_
    try simp only [Act.put, List.setIfInBounds_toArray, List.set_cons_zero, List.set_cons_succ]
    refine till_one 6 (by kernel_rfl) rfl (fun K hK => ?_)
    go_simp
    obtain ⟨B, hB⟩ : ∃ B, W0.heap.size = B := ⟨_, rfl⟩
    obtain ⟨W1, hW1⟩ : ∃ u, W0.alloc (.cells #[.int .i64 0, .int .i64 0, .slice (some ⟨a, 0, none⟩) 0 0, .slice (some ⟨t, 0, none⟩) 0 1] 67) = u := ⟨_, rfl⟩
    have at1 : W1.heap[B]? = some (.cells #[.int .i64 0, .int .i64 0, .slice (some ⟨a, 0, none⟩) 0 0, .slice (some ⟨t, 0, none⟩) 0 1] 67 (0, 0)) := by rw [← hW1, ← hB]; exact heap_alloc_new _ _
    have HS1 : Hid (Below wc.heap.size wc W1) := hide (by rw [← hW1]; exact (unhide HS0).alloc (unhide HS0).size _)
    rw [hW1]
    rw [hB]
    refine hK.out _ _ (Or.inr (unhide HS1)) ?_
    clear hK K hW1 hB
    try simp only [Act.put, List.setIfInBounds_toArray, List.set_cons_zero, List.set_cons_succ]
    obtain ⟨iv, hiv, hz0, hz1, hz2⟩ := info_parts infoF4
    refine till_one 7 (by kernel_rfl) rfl (fun K hK => ?_)
    refine step_own (by rfl) _ _ 25 67 iv _ 4 64 (by rfl) Tryz.underlying25 hiv hz0 hz1 hz2 rfl (by decide) (by rfl) ⟨B, 0, none⟩ 1 [.int .i64 0, .int .i64 0, .slice (some ⟨a, 0, none⟩) 0 0, .slice (some ⟨t, 0, none⟩) 0 1] (by rfl) rfl (fun j u hu => World.news_of_block at1 j u hu) (by simp [Value.oneCell']) (by decide) ?_
    intro v7 W2 HA
    have HS2 : Hid (Below wc.heap.size wc W2) := hide ((unhide HS1).trans ((unhide HA).2.mono (unhide HS1).size))
    obtain ⟨rb, rc, z, rfl, hrc, hrb, hrr⟩ := own_one (unhide HA).1
    have hrbw : wc.heap.size ≤ rb := Nat.le_trans (unhide HS1).size hrb
    refine hK.out _ _ (Or.inr (unhide HS2)) ?_
    clear hK K at1 HS1
    try simp only [Act.put, List.setIfInBounds_toArray, List.set_cons_zero, List.set_cons_succ]
    refine till_one 8 (by kernel_rfl) rfl (fun K hK => ?_)
    go_simp
    refine hK.out _ _ (Or.inr (unhide HS2)) ?_
    clear hK K
    try simp only [Act.put, List.setIfInBounds_toArray, List.set_cons_zero, List.set_cons_succ]
    refine till_one 9 (by kernel_rfl) rfl (fun K hK => ?_)
    go_simp
    refine hK.out _ _ (Or.inr (unhide HS2)) ?_
    clear hK K
    try simp only [Act.put, List.setIfInBounds_toArray, List.set_cons_zero, List.set_cons_succ]
    have hq2 := ((unhide HS2).block q (lt_of_row hqc)).trans hqc
    obtain ⟨c0, c1, c2, c3, c4, c5⟩ := rn_cells hq2
    have y4 := frozen_of_row W2 q 4 _ _ hq2
    refine till_one 10 (by kernel_rfl) rfl (fun K hK => ?_)
    go_simp
    have hq3 := set_at (k := 4) (v := (.slice (some ⟨rb, 0, none⟩) 1 rc)) (cs2 := rnC C (.slice (some ⟨f, 0, none⟩) 1 fc) S (.slice (some ⟨rb, 0, none⟩) 1 rc) g 0) hq2 rfl
    have htq := ne_of_types htc hqc (by rfl)
    have hrq := ne_of_types hrr hq2 (by rfl)
    have hr3 := (heap_setCell_other W2 ⟨q, 4, none⟩ rb (.slice (some ⟨rb, 0, none⟩) 1 rc) hrq).trans hrr
    have ht3 := (heap_setCell_other W2 ⟨q, 4, none⟩ t (.slice (some ⟨rb, 0, none⟩) 1 rc) htq).trans (((unhide HS2).block t (lt_of_row htc)).trans htc)
    have HE := hide (And.intro hq3 (And.intro hr3 (And.intro ht3 ((((Bes.of_below (P := fun k => k = q) (unhide B0)).trans (Bes.of_below (unhide HS2))).set (p := ⟨q, 4, none⟩) (Or.inl rfl) (.slice (some ⟨rb, 0, none⟩) 1 rc))))))
    have hrb2 : w.heap.size ≤ rb := Nat.le_trans (unhide B0).size hrbw
    obtain ⟨W3, hW3⟩ : ∃ u, W2.setCell ⟨q, 4, none⟩ (.slice (some ⟨rb, 0, none⟩) 1 rc) = u := ⟨_, rfl⟩
    rw [hW3] at HE ⊢
    clear hW3 hq3 hr3 ht3 c0 c1 c2 c3 c4 c5 y4
    refine hK.out _ _ (Or.inl (by first | rfl | trivial)) ?_
    clear hK K
    try simp only [Act.put, List.setIfInBounds_toArray, List.set_cons_zero, List.set_cons_succ]
    refine till_done (by kernel_rfl) ?_ _
    go_wp2_with fail
    go_end0
    exact ⟨rfl, rb, rc, t, _, z, hrb2, htw, hrc, (unhide HE).1, (unhide HE).2.1, (unhide HE).2.2.1, (unhide HE).2.2.2⟩
end Go.Proofs.YtmnbfcpkaglniaaGreatDoor

/-
  Copy of a table of whole numbers: a table of its own that has the same; no conditions but that the keys rise and the row's bytes are within 2^47.
-/
import Derived.Test.YtflopmhjgamcfaaTTill
set_option linter.unusedSimpArgs false
namespace Go.Proofs.Ytflopmhjgamcfaa
open Go.RowKit Go.Shelf
set_option linter.unusedVariables false
attribute [local go_sem] Oper.semAt_some

/-- append of one pair, at a step of a region that draws -/
theorem step_app2 {P : Program} {w : World} {ops : Array Oper} {o : Oper} {a : Act} {K : Act → World → Prop} {Q : Exit → Act → World → Prop} {E' : Prop} (hgd : o.guard = none) (sl x : Operand) (tS E : TypeId) (i0 : TypeInfo) (z : Value) (bytes : Nat)
    (hS : P.underlying tS = some (.slice E)) (hi : P.info? E = some i0) (hz0 : i0.zero = some z) (hz1 : i0.size = 2) (hz2 : i0.bytes = bytes) (hzc : z.cells.size = 2)
    (ho : o.op = .call { callee := .builtin .append, args := #[sl, x], argTypes := #[tS, tS] })
    (base n : Nat) (v : Value) (xs : List Value) (hs : a.eval sl = v) (hown : w.ownsRow base E 2 v n xs)
    (gv : Nat) (y0 y1 : Value) (hx : a.eval x = .slice (some ⟨gv, 0, none⟩) 1 1) (hg : w.heap[gv]? = some (.cells #[y0, y1] E (0, 0))) (h0 : y0.oneCell' = true) (h1 : y1.oneCell' = true)
    (hm : n + 1 ≤ maxLen) (hbytes : (n + 1) * bytes ≤ 140737488355328) (hbase : base ≤ w.heap.size)
    (h : ∀ v' w', Hid (w'.ownsRow base E 2 v' (n + 1) (xs ++ [y0, y1]) ∧ Grew w w' v v') → K (a.put o.dst v') w') :
    if Region.wanted o (yielded ops a.tmps) = true then Oper.wp P o a w K Q else E' := by
  rw [if_pos (show Region.wanted o (yielded ops a.tmps) = true by simp [Region.wanted, hgd])]
  obtain ⟨v', w', hrun, h2, h3, _, h5⟩ := run_append_own_at (P := P) w base tS o.type E i0 z 2 bytes hS hi hz0 hz1 hz2 hzc (by decide) v n _ hown ⟨gv, 0, none⟩ 1 1 [y0, y1] rfl (two_cells hg) (one_two h0 h1) hm hbytes hbase
  unfold Oper.wp
  simp only [execOp, ho, resolve, invoke, builtin, Sem.run_bind, Sem.run_pure, Result.andThen_ok, List.map_toArray, List.map_cons, List.map_nil, hs, hx, hrun]
  refine h v' w' ⟨h2, h3, fun b hb => ?_⟩
  rcases h5 with e | e
  · exact Or.inl (by rw [← e]; exact hb)
  · rw [hb] at e
    exact Or.inr (by rw [Option.some.inj e]; exact Nat.le_refl _)

set_option maxRecDepth 100000 in
set_option maxHeartbeats 2000000 in
theorem copy_I {base g : Nat} {v : Value} {l : Prs} {w : World} (h : TabI w base g v l) (hr : RisesI l) (hb : (l.length + 1) * 16 ≤ 140737488355328) :
    Calls Try.prog 27 #[.pointer (some ⟨g, 0, none⟩)] w fun e w' => ∃ g' v', e = .returned (.pointer (some ⟨g', 0, none⟩)) ∧ TabI w' w.heap.size g' v' l ∧ w.heap.size ≤ g' ∧ some g' ≠ v'.ownBlock ∧ Below w.heap.size w w' := by
  obtain ⟨gn, hgn⟩ : ∃ gn, w.heap.size = gn := ⟨_, rfl⟩
  obtain ⟨w1, hw1⟩ : ∃ w1, w.alloc (.cells #[.slice none 0 0] 73) = w1 := ⟨_, rfl⟩
  have N1 := heap_alloc_new w (.cells #[.slice none 0 0] 73)
  have B1 : Below w.heap.size w w1 := by rw [← hw1]; exact (Below.refl _ _).alloc (Nat.le_refl _) _
  have Z1 : w1.heap.size = gn + 1 := by rw [← hw1, ← hgn]; simp
  rw [hw1, hgn] at N1
  obtain ⟨w2, hw2⟩ : ∃ w2, w1.alloc (.cells #[.pointer (some ⟨gn, 0, none⟩)] 26) = w2 := ⟨_, rfl⟩
  have N2 := heap_alloc_new w1 (.cells #[.pointer (some ⟨gn, 0, none⟩)] 26)
  have B2 : Below w1.heap.size w1 w2 := by rw [← hw2]; exact (Below.refl _ _).alloc (Nat.le_refl _) _
  have Z2 : w2.heap.size = gn + 2 := by rw [← hw2]; simp [Z1]
  rw [hw2, Z1] at N2
  have gl : g < w.heap.size := (Array.getElem?_eq_some_iff.1 h.here).1
  have B12 : Below w.heap.size w w2 := B1.trans (B2.mono B1.size)
  have T2 : TabI w2 base g v l := h.later B12 gl (fun b hb => (h.row.lt b hb).2)
  have CA := hide (all_I T2 hr (by omega))
  have HZ := hide (And.intro hgn (And.intro ((B2.block gn (by omega)).trans N1) (And.intro N2 (And.intro B12 Z2))))
  have W1 := hide hw1
  have W2 := hide hw2
  have HG := hide hgn
  have Z1' := hide Z1
  clear h hr N1 B1 Z1 N2 B2 Z2 B12 T2 hw1 hw2 gl hgn
  refine (callsIn_wide (n := 5)).1 ?_
  refine callsIn_of_wp_marks Try.func27 rfl trivial ?_ rfl
  simp only [Try.ntmps27, List.size_toArray, List.length_cons, List.length_nil, Nat.reduceAdd, Nat.reduceSub, Array.replicate_succ, Array.replicate_zero, List.push_toArray, List.append_toArray, List.nil_append, List.cons_append]
  gi_wp2_with fail
  refine ⟨trivial, (callsIn_wide.2 (new_I w)).mono ?_⟩
  rintro e x1 ⟨rfl, hx1⟩
  rw [unhide W1] at hx1
  subst hx1
  rw [unhide HG]
  gi_wp2_with fail
  rw [unhide Z1', unhide W2]
  refine ⟨trivial, (callsIn_wide.2 (unhide CA)).mono ?_⟩
  rintro e w3 ⟨f, G, v', wb, rfl, hs, bb, b3⟩
  obtain ⟨hfn, hsG, hsrow, hslow⟩ := hs
  subst hfn
  obtain ⟨hgn, hn1, hn2, B12, Z2⟩ := unhide HZ
  have hb23 : Below w2.heap.size w2 w3 := bb.trans (b3.mono bb.size)
  have e1 : w3.heap[gn]? = some (.cells #[.slice none 0 0] 73 (0, 0)) := (hb23.block gn (by omega)).trans hn1
  have e2 : w3.heap[gn + 1]? = some (.cells #[.pointer (some ⟨gn, 0, none⟩)] 26 (0, 0)) := (hb23.block (gn + 1) (by omega)).trans hn2
  have hBw : Below w.heap.size w w3 := B12.trans (hb23.mono B12.size)
  have HI0 := hide (And.intro e1 (And.intro e2 hBw))
  have HSQ := hide (And.intro hsG hsrow)
  have HV : Hid (∀ b, v'.ownBlock = some b → b < w3.heap.size) := hide (fun b hb => (hsrow.lt b hb).2)
  clear hsG hsrow hslow hgn hn1 hn2 B12 Z2 hb23 e1 e2 hBw bb b3 CA
  gi_wp2_with fail
  refine wpIn_rangeFunc_ownF rfl (by decide) (gf := 32) (lb := #[.pointer (some ⟨G, 0, none⟩)]) rfl trivial (enters_of Try.func32 (by kernel_rfl) rfl)
    (iter_stops _ (by decide) l G v' wb w3 (unhide HSQ).1 (unhide HSQ).2) (fun h1 h2 b hb => (h2 b hb).trans (h1 b hb)) (fun W j o o' hj _ _ _ b hb => World.putObj_heap_other (by have := unhide HV b hb; omega)) (Below.refl _ _) (fun _ => rfl)
    (fun pre W => ∃ vn, W.heap[gn]? = some (.cells #[vn] 73 (0, 0)) ∧ W.heap[gn + 1]? = some (.cells #[.pointer (some ⟨gn, 0, none⟩)] 26 (0, 0)) ∧ W.ownsRow w3.heap.size 71 2 vn pre.length (cells2 (valsI pre)) ∧ Below w.heap.size w W ∧ w3.heap.size ≤ W.heap.size)
    (fun _ _ _ => False) ?hI (fun _ _ _ _ _ hs _ _ => hs) ?h0
    (fun x => { tmps := #[.pointer (some ⟨g, 0, none⟩), undef, .pointer none, .pointer (some ⟨gn + 1, 0, none⟩), .int .i64 x.1, .int .i64 x.2, .pointer (some ⟨g, 0, none⟩), .bool false, .pointer (some ⟨gn, 0, none⟩), .pointer (some ⟨g, 0, none⟩), .func (.func 32) #[] #[.pointer (some ⟨G, 0, none⟩)], .int .i64 x.1, .int .i64 x.2, undef, undef, undef, undef, undef, undef, undef, undef, undef, undef, undef, undef, undef], defers := [] }) ?assign ?body ?done ?stop
  case hI =>
    rintro pre W W' row ⟨vn, a1, a2, a3, a4, a5⟩ hg hr
    have hne : ∀ q c t, W.heap[q]? = some (.cells c t (0, 0)) → some q ≠ row := fun q c t hq e => by
      obtain ⟨_, o, ho, hc⟩ := hr q e.symm
      rw [hq] at ho
      cases ho
      cases hc
    refine ⟨vn, (hg.block gn (Array.getElem?_eq_some_iff.1 a1).1 (hne _ _ _ a1)).trans a1, (hg.block (gn + 1) (Array.getElem?_eq_some_iff.1 a2).1 (hne _ _ _ a2)).trans a2, ?_, a4.grown hg (by have := a4.size; omega) (fun k hk => by have h1 := (hr k hk).1; have h2 := (unhide HI0).2.2.size; omega), by have := hg.size; omega⟩
    refine ⟨a3.1, ?_⟩
    rcases a3.2 with h | ⟨b, cap, cur, e, hb', hg', rest⟩
    · exact .inl h
    · exact .inr ⟨b, cap, cur, e, hb', (hg.block b (Array.getElem?_eq_some_iff.1 hg').1 (hne _ _ _ hg')).trans hg', rest⟩
  case h0 =>
    obtain ⟨e1, e2, hBw⟩ := unhide HI0
    exact ⟨_, e1, e2, World.ownsRow_nil _ _ _ _, hBw, Nat.le_refl _⟩
  case assign =>
    intro j x W K hK
    gi_wp2
    exact hK
  case body =>
    rintro j pre x W ⟨vn, a1, a2, a3, a4, a5⟩ hlt
    obtain ⟨ao, cap, hvn, hcap, hmax, hnone, hsome⟩ := own_shape (l := valsI pre) (by rw [valsI_len]; exact a3)
    subst hvn
    rw [valsI_len] at *
    have c1 : W.cell? ⟨gn, 0, none⟩ = some (.slice ao pre.length cap) := by rw [cell_of_row W gn 0 _ _ (0, 0) a1]; rfl
    have c2 : W.cell? ⟨gn + 1, 0, none⟩ = some (.pointer (some ⟨gn, 0, none⟩)) := by rw [cell_of_row W (gn + 1) 0 _ _ (0, 0) a2]; rfl
    have f1 := frozen_of a1
    have HA := hide (And.intro a1 (And.intro a2 (And.intro a3 (And.intro a4 a5))))
    clear a1 a2 a3 a4 a5 hnone hsome
    obtain ⟨m, hm⟩ : ∃ m, pre.length = m := ⟨_, rfl⟩
    rw [hm] at c1 hcap
    have HM := hide (And.intro hm hlt)
    have hb' : (m + 1) * 16 ≤ 140737488355328 := by omega
    clear hm hlt
    obtain ⟨i0, hi0, hz0, hz1, hz2⟩ := info_parts infoI
    gi_wp2_with fail
    refine till_in (S := fun w' => w'.cell? ⟨gn, 0, none⟩ = some (.slice ao m cap) ∧ w'.cell? ⟨gn + 1, 0, none⟩ = some (.pointer (some ⟨gn, 0, none⟩))) 12 (by kernel_rfl) ?nd ?nq ?_
    case nd =>
      intro i o ho c
      have : i < 13 := by
        have := (Array.getElem?_eq_some_iff.1 ho).1
        exact this
      rcases (show i = 0 ∨ i = 1 ∨ i = 2 ∨ i = 3 ∨ i = 4 ∨ i = 5 ∨ i = 6 ∨ i = 7 ∨ i = 8 ∨ i = 9 ∨ i = 10 ∨ i = 11 ∨ i = 12 by omega) with rfl | rfl | rfl | rfl | rfl | rfl | rfl | rfl | rfl | rfl | rfl | rfl | rfl <;> (cases ho; intro e; cases e)
    case nq =>
      rintro ⟨a, w, h⟩
      exact h
    have HS0 := And.intro c1 c2
    refine till_take 0 (v := .pointer (some ⟨gn, 0, none⟩)) (some 13) rfl rfl rfl (by kernel_rfl) (by kernel_rfl) (by kernel_rfl) (by kernel_rfl) (fun _ _ _ h => h) (Or.inl ⟨by rfl, fun u hu => by obtain ⟨s1, s2⟩ := hu; go_simp⟩) HS0 ?_
    simp only [Act.put, List.setIfInBounds_toArray, List.set_cons_zero, List.set_cons_succ]
    refine till_take 1 (v := .pointer (some ⟨gn, 0, none⟩)) (some 14) rfl rfl rfl (by kernel_rfl) (by kernel_rfl) (by kernel_rfl) (by kernel_rfl) (fun _ _ _ h => h) (Or.inl ⟨by rfl, fun u hu => by obtain ⟨s1, s2⟩ := hu; go_simp⟩) HS0 ?_
    simp only [Act.put, List.setIfInBounds_toArray, List.set_cons_zero, List.set_cons_succ]
    refine till_take 2 (v := .pointer (some ⟨gn, 0, none⟩)) (some 15) rfl rfl rfl (by kernel_rfl) (by kernel_rfl) (by kernel_rfl) (by kernel_rfl) (fun _ _ _ h => h) (Or.inl ⟨by rfl, fun u hu => by obtain ⟨s1, s2⟩ := hu; go_simp⟩) HS0 ?_
    simp only [Act.put, List.setIfInBounds_toArray, List.set_cons_zero, List.set_cons_succ]
    refine till_take 3 (v := .pointer (some ⟨gn, 0, none⟩)) (some 16) rfl rfl rfl (by kernel_rfl) (by kernel_rfl) (by kernel_rfl) (by kernel_rfl) (fun _ _ _ h => h) (Or.inl ⟨by rfl, fun u hu => by obtain ⟨s1, s2⟩ := hu; go_simp⟩) HS0 ?_
    simp only [Act.put, List.setIfInBounds_toArray, List.set_cons_zero, List.set_cons_succ]
    refine till_take 4 (v := .slice ao m cap) (some 17) rfl rfl rfl (by kernel_rfl) (by kernel_rfl) (by kernel_rfl) (by kernel_rfl) (fun _ _ _ h => h) (Or.inl ⟨by rfl, fun u hu => by obtain ⟨s1, s2⟩ := hu; go_simp⟩) HS0 ?_
    simp only [Act.put, List.setIfInBounds_toArray, List.set_cons_zero, List.set_cons_succ]
    refine till_take 5 (v := .int .i64 x.1) (some 18) rfl rfl rfl (by kernel_rfl) (by kernel_rfl) (by kernel_rfl) (by kernel_rfl) (fun _ _ _ h => h) (Or.inl ⟨by rfl, fun u hu => by obtain ⟨s1, s2⟩ := hu; go_simp⟩) HS0 ?_
    simp only [Act.put, List.setIfInBounds_toArray, List.set_cons_zero, List.set_cons_succ]
    refine till_take 6 (v := .int .i64 x.2) (some 19) rfl rfl rfl (by kernel_rfl) (by kernel_rfl) (by kernel_rfl) (by kernel_rfl) (fun _ _ _ h => h) (Or.inl ⟨by rfl, fun u hu => by obtain ⟨s1, s2⟩ := hu; go_simp⟩) HS0 ?_
    simp only [Act.put, List.setIfInBounds_toArray, List.set_cons_zero, List.set_cons_succ]
    refine till_take 7 (v := .agg #[.int .i64 x.1, .int .i64 x.2]) (some 20) rfl rfl rfl (by kernel_rfl) (by kernel_rfl) (by kernel_rfl) (by kernel_rfl) (fun _ _ _ h => h) (Or.inl ⟨by rfl, fun u hu => by obtain ⟨s1, s2⟩ := hu; go_simp⟩) HS0 ?_
    simp only [Act.put, List.setIfInBounds_toArray, List.set_cons_zero, List.set_cons_succ]
    refine till_one 8 (by kernel_rfl) rfl (fun K hK => ?_)
    go_simp
    obtain ⟨u4, hu4⟩ : ∃ u4, (W.alloc (.cells #[.int .i64 x.1, .int .i64 x.2] 71)).drew = u4 := ⟨_, rfl⟩
    have at4 : u4.heap[W.heap.size]? = some (.cells #[.int .i64 x.1, .int .i64 x.2] 71 (0, 0)) := by rw [← hu4]; exact heap_alloc_new W _
    have X4 : Below W.heap.size W u4 := by rw [← hu4]; exact ((Below.refl _ _).alloc (Nat.le_refl _) _).drew
    have O4 : KeepsOthers W u4 := by rw [← hu4]; exact (KeepsOthers.alloc _ _).trans (KeepsOthers.drew _)
    rw [hu4]
    obtain ⟨a1, a2, a3, a4, a5⟩ := unhide HA
    have HS4 : u4.cell? ⟨gn, 0, none⟩ = some (.slice ao m cap) ∧ u4.cell? ⟨gn + 1, 0, none⟩ = some (.pointer (some ⟨gn, 0, none⟩)) := ⟨cell_later X4 c1, cell_later X4 c2⟩
    have o4 := own_below a3 X4
    rw [(unhide HM).1] at o4
    obtain ⟨hW, hhW⟩ : ∃ hW, W.heap.size = hW := ⟨_, rfl⟩
    rw [hhW] at at4 ⊢
    refine hK.out _ _ (Or.inr HS4) ?_
    have H4 := hide (And.intro X4 (And.intro O4 o4))
    have HA4 := hide at4
    have hsz4 : w3.heap.size ≤ u4.heap.size := by have := X4.size; omega
    clear hK K HS0 c1 c2 f1 hu4 X4 O4 o4 at4 a1 a2 a3 a4
    try simp only [Act.put, List.setIfInBounds_toArray, List.set_cons_zero, List.set_cons_succ]
    refine till_one 9 (by kernel_rfl) rfl (fun K hK => ?_)
    refine step_app2 (by rfl) (.tmp 17) (.tmp 21) 68 71 i0 _ 16 Try.underlying68 hi0 hz0 hz1 hz2 rfl (by rfl) w3.heap.size m (.slice ao m cap) (cells2 (valsI pre)) (by rfl) (unhide H4).2.2 hW (.int .i64 x.1) (.int .i64 x.2) (by rfl) (unhide HA4) rfl rfl (by unfold maxLen; omega) hb' hsz4 ?_
    intro v5 w5 H5
    obtain ⟨a5', c5, rfl⟩ := slice_of (unhide H5).1
    change K (Act.put _ (some 22) _) w5
    obtain ⟨a1, a2, a3, a4, a5⟩ := unhide HA
    have gnl : gn < W.heap.size := (Array.getElem?_eq_some_iff.1 a1).1
    have gnl2 : gn + 1 < W.heap.size := (Array.getElem?_eq_some_iff.1 a2).1
    have nb : ∀ q, q < w3.heap.size → some q ≠ (Value.slice ao m cap).ownBlock := fun q hq e => by
      have := ((unhide H4).2.2.lt q e.symm).1
      omega
    have gn3 : gn + 1 < w3.heap.size := (Array.getElem?_eq_some_iff.1 (unhide HI0).2.1).1
    have hus := (unhide H4).1.size
    rw [(unhide HM).1] at a1
    have e5 : w5.heap[gn]? = some (.cells #[.slice ao m cap] 73 (0, 0)) := ((unhide H5).2.grown.block gn (by omega) (nb gn (by omega))).trans (((unhide H4).1.block gn gnl).trans a1)
    have e6 : w5.heap[gn + 1]? = some (.cells #[.pointer (some ⟨gn, 0, none⟩)] 26 (0, 0)) := ((unhide H5).2.grown.block (gn + 1) (by omega) (nb (gn + 1) (by omega))).trans (((unhide H4).1.block (gn + 1) gnl2).trans a2)
    have c5' : w5.cell? ⟨gn, 0, none⟩ = some (.slice ao m cap) := by rw [cell_of_row w5 gn 0 _ _ (0, 0) e5]; rfl
    have c6' : w5.cell? ⟨gn + 1, 0, none⟩ = some (.pointer (some ⟨gn, 0, none⟩)) := by rw [cell_of_row w5 (gn + 1) 0 _ _ (0, 0) e6]; rfl
    have HS5 := And.intro c5' c6'
    have f5 := frozen_of e5
    have E5 := hide (And.intro e5 (And.intro e6 (And.intro a4 a5)))
    have NB := hide (And.intro nb (And.intro gn3 gnl))
    refine hK.out _ _ (Or.inr HS5) ?_
    clear hK K HS4 e5 e6 a1 a2 a3 a4 nb gn3 gnl gnl2 hus
    try simp only [Act.put, List.setIfInBounds_toArray, List.set_cons_zero, List.set_cons_succ]
    refine till_one 10 (by kernel_rfl) rfl (fun K hK => ?_)
    go_simp
    refine hK.out _ _ (Or.inr HS5) ?_
    clear hK K
    try simp only [Act.put, List.setIfInBounds_toArray, List.set_cons_zero, List.set_cons_succ]
    refine till_one 11 (by kernel_rfl) rfl (fun K hK => ?_)
    go_simp
    refine hK.out _ _ (Or.inr HS5) ?_
    clear hK K
    try simp only [Act.put, List.setIfInBounds_toArray, List.set_cons_zero, List.set_cons_succ]
    refine till_one 12 (by kernel_rfl) rfl (fun K hK => ?_)
    go_simp
    refine hK.out _ _ (Or.inl rfl) ?_
    clear hK K
    try simp only [Act.put, List.setIfInBounds_toArray, List.set_cons_zero, List.set_cons_succ]
    refine till_done (by kernel_rfl) ?_ _
    obtain ⟨e5, e6, a4, a5⟩ := unhide E5
    obtain ⟨nb, gn3, gnl⟩ := unhide NB
    obtain ⟨X4, O4, o4⟩ := unhide H4
    obtain ⟨o5, gr5⟩ := unhide H5
    have hm := (unhide HM).1
    have ne5 : some gn ≠ (Value.slice a5' (m + 1) c5).ownBlock := fun e => by
      rcases gr5.row gn e.symm with h | h
      · exact nb gn (by omega) h.symm
      · have := X4.size
        omega
    have keep5 : ∀ q, q < W.heap.size → q ≠ gn → some q ≠ (Value.slice ao m cap).ownBlock → (w5.setCell ⟨gn, 0, none⟩ (.slice a5' (m + 1) c5)).heap[q]? = W.heap[q]? := fun q hq h1 h2 => by
      rw [heap_setCell_other _ _ _ _ h1, gr5.grown.block q (by have := X4.size; omega) h2, X4.block q hq]
    show KeepsOthers W _ ∧ KeepV v' W _ ∧ _
    refine ⟨O4.trans ((KeepsOthers.of_grownBy gr5.grown (fun j o hj ho => ?_)).trans (KeepsOthers.setCell _ _ _)), fun b hb => ?_, .slice a5' (m + 1) c5, ?_, ?_, ?_, ?_, ?_⟩
    · obtain ⟨cur, hcur⟩ : ∃ cur, u4.heap[j]? = some (.cells cur 71 (0, 0)) := by
        rcases o4.2 with ⟨e, _⟩ | ⟨g', cap', cur, e, _, hg', _⟩
        · rw [e] at hj; cases hj
        · rw [e] at hj; cases hj; exact ⟨cur, hg'⟩
      rw [ho] at hcur
      cases hcur
      rfl
    · have hv3 := unhide HV b hb
      refine keep5 b (by omega) (fun e => ?_) (nb b hv3)
      subst e
      have h1 := (unhide HSQ).2
      have h2 := (unhide HI0).1
      rcases h1.2 with ⟨e, _⟩ | ⟨g', cap', cur, e, _, hg', _⟩
      · rw [e] at hb; cases hb
      · rw [e] at hb
        cases hb
        rw [hg'] at h2
        simp at h2
    · have := heap_setCell_same w5 gn 0 _ _ (.slice a5' (m + 1) c5) e5
      exact this
    · rw [heap_setCell_other _ _ _ _ (by simp)]
      exact e6
    · have hv : valsI (pre ++ [x]) = valsI pre ++ [(.int .i64 x.1, .int .i64 x.2)] := by simp [valsI]
      rw [hv, cells2_append, List.length_append, hm]
      refine ⟨o5.1, ?_⟩
      rcases o5.2 with h | ⟨b, cap', cur, hv', hb', hg', rest⟩
      · exact .inl h
      · refine .inr ⟨b, cap', cur, hv', hb', ?_, rest⟩
        rw [heap_setCell_other _ _ _ _ (fun e => ne5 (by rw [hv']; simp [Value.ownBlock, e]))]
        exact hg'
    · have h1 : Below w.heap.size w u4 := a4.trans (X4.mono a4.size)
      have hww : w.heap.size ≤ w3.heap.size := (unhide HI0).2.2.size
      have hgw : w.heap.size ≤ gn := Nat.le_of_eq (unhide HG)
      exact (h1.grown gr5.grown (Nat.le_trans hww hsz4) (fun k hk => Nat.le_trans hww (o4.lt k hk).1)).setCell (p := ⟨gn, 0, none⟩) hgw _
    · have := gr5.grown.size
      have := X4.size
      simp
      omega
  case done =>
    rintro D ys W hD rfl ⟨vn, a1, a2, a3, a4, a5⟩ hK
    have c2 : W.cell? ⟨gn + 1, 0, none⟩ = some (.pointer (some ⟨gn, 0, none⟩)) := by rw [cell_of_row W (gn + 1) 0 _ _ (0, 0) a2]; rfl
    have HA := hide (And.intro a1 (And.intro a3 a4))
    clear a1 a2 a3 a4
    gi_wp2
    refine ⟨by simp, .inl ⟨_, _, rfl, run_takeDeferred hK, ?_⟩⟩
    obtain ⟨a1, a3, a4⟩ := unhide HA
    have hww : w.heap.size ≤ w3.heap.size := (unhide HI0).2.2.size
    have hgw := unhide HG
    have far : ∀ (q : Nat) (c : Array Value) (t : TypeId), W.heap[q]? = some (.cells c t (0, 0)) → (W.putObj D (.deferred none)).heap[q]? = some (.cells c t (0, 0)) := fun q c t hq => by
      rw [World.putObj_heap_other (fun e => by
        rw [e, hK] at hq
        cases hq)]
      exact hq
    have hrow : (W.putObj D (.deferred none)).ownsRow w.heap.size 71 2 vn (valsI ys).length (cells2 (valsI ys)) := by
      rw [valsI_len]
      refine ⟨a3.1, ?_⟩
      rcases a3.2 with h | ⟨b, cap, cur, e, hb', hg', rest⟩
      · exact .inl h
      · exact .inr ⟨b, cap, cur, e, Nat.le_trans hww hb', far _ _ _ hg', rest⟩
    refine ⟨_, results_tmp rfl _ _ _, gn, vn, rfl, ⟨far _ _ _ a1, hrow⟩, Nat.le_of_eq hgw, fun e => ?_, ?_⟩
    · have h1 := (a3.lt gn e.symm).1
      have h2 := (Array.getElem?_eq_some_iff.1 (unhide HI0).1).1
      omega
    · exact a4.trans ⟨rfl, rfl, rfl, by simp, fun k hk => World.putObj_heap_other (by omega)⟩
  case stop =>
    rintro D c pre W _ _ h _
    exact h.elim
end Go.Proofs.Ytflopmhjgamcfaa

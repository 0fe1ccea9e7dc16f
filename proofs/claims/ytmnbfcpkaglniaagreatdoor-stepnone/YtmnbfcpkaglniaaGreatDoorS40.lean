/-
  Layer 15 (step): Step of the example's machine, once and twice; conditions: the package's variables.
-/
import Derived.Test.YtmnbfcpkaglniaaGreatDoorS39
set_option linter.unusedVariables false
set_option linter.unusedSimpArgs false
namespace Go.Proofs.YtmnbfcpkaglniaaGreatDoor
open Go.RowKit
set_option linter.unusedVariables false
set_option linter.unusedSimpArgs false
set_option maxRecDepth 100000 in
set_option maxHeartbeats 16000000 in
theorem step_two {w : World} {m : Mc} {x0 x1 : Int} {x2 : ByteArray} {al ak : Option Addr} {ll cl lk ck : Nat} {ok : Bool} (h : RnS w m 1 2 1 1 #[.int .i64 x0, .int .i64 x1, .string x2, .slice al ll cl, .slice ak lk ck] ok) : Calls Tryz.prog 5 #[.pointer (some ⟨m.q, 0, none⟩)] w fun e w' => e = .returned (.bool true) ∧ w'.heap[m.q]? = some (.cells (enC m.g 2 x0 x1 x2 al ll cl ak lk ck 0) 62 (0, 0)) ∧ Mt w' m.g 2 0 false none ∧ Below m.lo w w' := by
  obtain ⟨l1, lq, lg, lr, lt, lw⟩ := h.lo
  obtain ⟨hrc, hfc, hbc, hcc⟩ := h.cap
  have LO := hide (And.intro lq (And.intro lg (And.intro lr lt)))
  have hop : (9 : Int) = 1 ∧ (1 : Int) = 0 ∨ (9 : Int) = 9 ∧ (1 : Int) = 1 := by decide
  have htk : takeI [1, 0, 9] 2 = (9, 0, 3, 0) := by decide +kernel
  have hco : costA 9 0 = (1, 0) := by kernel_rfl
  have CG := hide (goes_on h.q)
  have CA := hide (ahead_on hrc hfc hbc htk h.q h.r h.f h.b8 h.T)
  have HS := hide h
  have B0 := hide lw
  have HH := hide (And.intro hop (And.intro hrc hcc))
  clear h l1 lq lg lr lt lw hfc hbc htk hop hrc hcc
  go_enter Tryz.func5, Tryz.ntmps5
  go_wp2_with fail
  refine (unhide CG).mono ?_
  rintro e w0 ⟨rfl, e0⟩
  rw [e0]
  clear e0 w0 CG
  go_wp2_with fail
  refine (unhide CA).mono ?_
  rintro e w1 ⟨rfl, b1⟩
  have H1 := hide ((unhide HS).below b1)
  have B1 := hide (b1.mono (unhide B0))
  clear b1 HS CA B0
  go_upto_region 4 with fail
  obtain ⟨Q, hQ⟩ : ∃ Q, w1.heap.size = Q := ⟨_, rfl⟩
  obtain ⟨w2, hw2⟩ : ∃ u, w1.alloc (.cells #[.int .i64 9, .int .i64 0] 36) = u := ⟨_, rfl⟩
  have q2 : w2.heap[Q]? = some (.cells #[.int .i64 9, .int .i64 0] 36 (0, 0)) := by rw [← hw2, ← hQ]; exact heap_alloc_new _ _
  have b2 : Below w1.heap.size w1 w2 := by rw [← hw2]; exact (Below.refl _ _).alloc (Nat.le_refl _) _
  have H2 := hide ((unhide H1).below b2)
  have B2 := hide ((unhide B1).trans (b2.mono (unhide H1).lo.2.2.2.2.2))
  try rw [hw2]
  try rw [hQ]
  have CT := hide (taken_on (k := 1) (op := 9) (tk := 1) (ar := 0) (unhide HH).2.1 (by decide) (unhide H2).T.tab (by decide) (unhide H2).q (unhide H2).r)
  obtain ⟨p0, p1⟩ := two_cells q2
  have Q2 := hide q2
  clear q2 b2 hw2 hQ H1 B1
  go_wp2_with fail
  refine (unhide CT).mono ?_
  rintro e w3 ⟨rfl, b3⟩
  have Q3 := hide ((b3.block Q (lt_of_row (unhide Q2))).trans (unhide Q2))
  have H3 := hide ((unhide H2).below b3)
  have B3 := hide ((unhide B2).trans (b3.mono (unhide H2).lo.2.2.2.2.2))
  clear b3 Q2 H2 B2 CT p0 p1
  go_upto_region 5 with fail
  have HF : Hid (∀ u, Below w3.heap.size w3 u → (u.cell? ⟨Q, 0, none⟩ = some (.int .i64 9) ∧ u.cell? ⟨Q, 1, none⟩ = some (.int .i64 0)) ∧ Tab u) := hide (fun u hu => ⟨two_cells ((hu.block Q (lt_of_row (unhide Q3))).trans (unhide Q3)), ((unhide H3).below hu).T.tab⟩)
  have HS0 : Hid (Below w3.heap.size w3 w3.drew) := hide ((Below.refl _ _).drew)
  refine till_begin (S := fun w' => Below w3.heap.size w3 w') 99 (by kernel_rfl) ?_
  obtain ⟨W0, hW0⟩ : ∃ W0, w3.drew = W0 := ⟨_, rfl⟩
  try rw [hW0]
  rw [hW0] at HS0
  clear hW0
  refine till_takeN 0 (v := .pointer (some ⟨Q, 0, none⟩)) (some 21) rfl rfl rfl (by kernel_rfl) (by kernel_rfl) (by kernel_rfl) (fun _ _ _ h => h) (Or.inl ⟨by rfl, fun u hu => by obtain ⟨⟨p0, p1⟩, ptab⟩ := unhide HF u hu; go_simp⟩) (unhide HS0) ?_
  try simp only [Act.put, List.setIfInBounds_toArray, List.set_cons_zero, List.set_cons_succ]
  refine till_takeN 1 (v := .int .i64 9) (some 22) rfl rfl rfl (by kernel_rfl) (by kernel_rfl) (by kernel_rfl) (fun _ _ _ h => h) (Or.inl ⟨by rfl, fun u hu => by obtain ⟨⟨p0, p1⟩, ptab⟩ := unhide HF u hu; go_simp⟩) (unhide HS0) ?_
  try simp only [Act.put, List.setIfInBounds_toArray, List.set_cons_zero, List.set_cons_succ]
  refine till_takeN 2 (v := .pointer (some ⟨m.q, 0, none⟩)) (some 23) rfl rfl rfl (by kernel_rfl) (by kernel_rfl) (by kernel_rfl) (fun _ _ _ h => h) (Or.inl ⟨by rfl, fun u hu => by obtain ⟨⟨p0, p1⟩, ptab⟩ := unhide HF u hu; go_simp⟩) (unhide HS0) ?_
  try simp only [Act.put, List.setIfInBounds_toArray, List.set_cons_zero, List.set_cons_succ]
  refine till_takeN 3 (v := .pointer (some ⟨Q, 0, none⟩)) (some 24) rfl rfl rfl (by kernel_rfl) (by kernel_rfl) (by kernel_rfl) (fun _ _ _ h => h) (Or.inl ⟨by rfl, fun u hu => by obtain ⟨⟨p0, p1⟩, ptab⟩ := unhide HF u hu; go_simp⟩) (unhide HS0) ?_
  try simp only [Act.put, List.setIfInBounds_toArray, List.set_cons_zero, List.set_cons_succ]
  refine till_takeN 4 (v := .int .i64 9) (some 25) rfl rfl rfl (by kernel_rfl) (by kernel_rfl) (by kernel_rfl) (fun _ _ _ h => h) (Or.inl ⟨by rfl, fun u hu => by obtain ⟨⟨p0, p1⟩, ptab⟩ := unhide HF u hu; go_simp⟩) (unhide HS0) ?_
  try simp only [Act.put, List.setIfInBounds_toArray, List.set_cons_zero, List.set_cons_succ]
  refine till_takeN 5 (v := .slice (some ⟨m.t, 0, none⟩) 1 1) (some 26) rfl rfl rfl (by kernel_rfl) (by kernel_rfl) (by kernel_rfl) (fun _ _ _ h => h) (Or.inl ⟨by rfl, fun u hu => by obtain ⟨⟨p0, p1⟩, ptab⟩ := unhide HF u hu; go_simp⟩) (unhide HS0) ?_
  try simp only [Act.put, List.setIfInBounds_toArray, List.set_cons_zero, List.set_cons_succ]
  have CW := hide (weight_on (w := W0) (q := m.q) (t := m.t) (op := 9) (tk := 1) (k := 1) (c1 := 1) (unhide HF W0 (unhide HS0)).2 (by decide))
  refine till_one 6 (by kernel_rfl) rfl (fun K hK => ?_)
  go_simp
  refine (unhide CW).mono ?_
  rintro e W1 ⟨rfl, bb⟩
  have HS1 : Hid (Below w3.heap.size w3 W1) := hide ((unhide HS0).trans (bb.mono (unhide HS0).size))
  clear CW bb
  go_wp2_with fail
  refine hK.out _ _ (Or.inr (unhide HS1)) ?_
  clear hK K
  try simp only [Act.put, List.setIfInBounds_toArray, List.set_cons_zero, List.set_cons_succ]
  have CCo := cost_any 9 0 W1 (unhide HF W1 (unhide HS1)).2
  rw [hco] at CCo
  have CW := hide CCo
  clear CCo
  refine till_one 7 (by kernel_rfl) rfl (fun K hK => ?_)
  go_simp
  refine (unhide CW).mono ?_
  rintro e W2 ⟨rfl, bb⟩
  have HS2 : Hid (Below w3.heap.size w3 W2) := hide ((unhide HS1).trans (bb.mono (unhide HS1).size))
  clear CW bb
  go_wp2_with fail
  refine hK.out _ _ (Or.inr (unhide HS2)) ?_
  clear hK K
  try simp only [Act.put, List.setIfInBounds_toArray, List.set_cons_zero, List.set_cons_succ]
  refine till_takeN 8 (v := .tuple #[.int .i64 1, .int .i64 0]) (some 20) rfl rfl rfl (by kernel_rfl) (by kernel_rfl) (by kernel_rfl) (fun _ _ _ h => h) (Or.inl ⟨by rfl, fun u hu => by obtain ⟨⟨p0, p1⟩, ptab⟩ := unhide HF u hu; go_simp⟩) (unhide HS2) ?_
  try simp only [Act.put, List.setIfInBounds_toArray, List.set_cons_zero, List.set_cons_succ]
  refine till_takeN 9 (v := .int .i64 1) (some 29) rfl rfl rfl (by kernel_rfl) (by kernel_rfl) (by kernel_rfl) (fun _ _ _ h => h) (Or.inl ⟨by rfl, fun u hu => by obtain ⟨⟨p0, p1⟩, ptab⟩ := unhide HF u hu; go_simp⟩) (unhide HS2) ?_
  try simp only [Act.put, List.setIfInBounds_toArray, List.set_cons_zero, List.set_cons_succ]
  refine till_takeN 10 (v := .int .i64 0) (some 30) rfl rfl rfl (by kernel_rfl) (by kernel_rfl) (by kernel_rfl) (fun _ _ _ h => h) (Or.inl ⟨by rfl, fun u hu => by obtain ⟨⟨p0, p1⟩, ptab⟩ := unhide HF u hu; go_simp⟩) (unhide HS2) ?_
  try simp only [Act.put, List.setIfInBounds_toArray, List.set_cons_zero, List.set_cons_succ]
  refine till_one 11 (by kernel_rfl) rfl (fun K hK => ?_)
  go_simp
  refine hK.out _ _ (Or.inr (unhide HS2)) ?_
  clear hK K
  try simp only [Act.put, List.setIfInBounds_toArray, List.set_cons_zero, List.set_cons_succ]
  refine till_one 12 (by kernel_rfl) rfl (fun K hK => ?_)
  go_simp
  refine hK.out _ _ (Or.inr (unhide HS2)) ?_
  clear hK K
  try simp only [Act.put, List.setIfInBounds_toArray, List.set_cons_zero, List.set_cons_succ]
  refine till_done (by kernel_rfl) ?_ _
  have H5 := hide ((unhide H3).below (unhide HS2))
  have B5 := hide ((unhide B3).trans ((unhide HS2).mono (unhide H3).lo.2.2.2.2.2))
  have Q5 := hide (((unhide HS2).block Q (lt_of_row (unhide Q3))).trans (unhide Q3))
  clear H3 B3 Q3 HS2 HF hco
  obtain ⟨w5, hw5⟩ : ∃ u, u = W2 := ⟨_, rfl⟩
  rw [← hw5] at H5 B5 Q5 ⊢
  clear hw5
  have CC := hide (charge_ok 1 (by decide) (by decide) (by decide) (unhide H5).g)
  obtain ⟨c0, c1, c2, c3, c4, c5⟩ := rn_cells (unhide H5).q
  go_wp2_with fail
  refine (unhide CC).mono ?_
  rintro e w6 ⟨rfl, e6⟩
  have H6 : Hid (RnS w6 m 1 2 0 1 #[.int .i64 x0, .int .i64 x1, .string x2, .slice al ll cl, .slice ak lk ck] ok) := hide (by rw [e6]; exact (unhide H5).setG _)
  have hgQ := unhide H5
  have q6 : w6.heap[Q]? = some (.cells #[.int .i64 9, .int .i64 0] 36 (0, 0)) := by rw [e6]; exact (heap_setCell_other _ ⟨m.g, 1, none⟩ Q _ (ne_of_types (unhide Q5) hgQ.g (by rfl))).trans (unhide Q5)
  have B6 : Hid (Below m.lo w w6) := hide (by rw [e6]; exact (unhide B5).setCell (p := ⟨m.g, 1, none⟩) (unhide LO).2.1 _)
  clear hgQ e6 H5 B5 Q5 CC c0 c1 c2 c3 c4 c5
  obtain ⟨c0, c1, c2, c3, c4, c5⟩ := rn_cells (unhide H6).q
  have y5 := frozen_of_row w6 m.q 5 _ _ (unhide H6).q
  go_upto_region 10 with fail
  have H7 := hide ((unhide H6).setQ 2)
  have q7 := (heap_setCell_other w6 ⟨m.q, 5, none⟩ Q (.int .i64 2) (ne_of_types q6 (unhide H6).q (by rfl))).trans q6
  have B7 := hide ((unhide B6).setCell (p := ⟨m.q, 5, none⟩) (unhide LO).1 (.int .i64 2))
  obtain ⟨w7, hw7⟩ : ∃ u, w6.setCell ⟨m.q, 5, none⟩ (.int .i64 2) = u := ⟨_, rfl⟩
  rw [hw7] at H7 q7 B7
  try rw [hw7]
  have CTop := hide (top_on (unhide HH).2.1 (unhide H7).q)
  clear hw7 c0 c1 c2 c3 c4 c5 y5 H6 B6 q6
  go_wp2_with fail
  refine (unhide CTop).mono ?_
  rintro e w8 ⟨rfl, b8⟩
  have H8 := hide ((unhide H7).below b8)
  have B8 := hide ((unhide B7).trans (b8.mono (unhide H7).lo.2.2.2.2.2))
  have q8 := (b8.block Q (lt_of_row q7)).trans q7
  clear b8 H7 B7 q7 CTop
  obtain ⟨r0, r1, r2, r3⟩ := four_cells (unhide H8).r
  have y1 := frozen_of_row w8 m.r 1 _ _ (unhide H8).r
  go_upto_region 12 with fail
  have H9 := hide ((unhide H8).setA 3)
  have q9 := (heap_setCell_other w8 ⟨m.r, 1, none⟩ Q (.int .i64 3) (ne_of_types q8 (unhide H8).r (by rfl))).trans q8
  have B9 := hide ((unhide B8).setCell (p := ⟨m.r, 1, none⟩) (unhide LO).2.2.1 (.int .i64 3))
  obtain ⟨w9, hw9⟩ : ∃ u, w8.setCell ⟨m.r, 1, none⟩ (.int .i64 3) = u := ⟨_, rfl⟩
  rw [hw9] at H9 q9 B9
  try rw [hw9]
  clear hw9 r0 r1 r2 r3 y1 H8 B8 q8
  have HF : Hid (∀ u, Below w9.heap.size w9 u → u.cell? ⟨m.r, 0, none⟩ = some (.int .i64 0) ∧ u.cell? ⟨m.r, 1, none⟩ = some (.int .i64 3) ∧ u.cell? ⟨m.r, 2, none⟩ = some m.L ∧ u.cell? ⟨m.r, 3, none⟩ = some (.slice (some ⟨m.t, 0, none⟩) 1 1)) := hide (fun u hu => four_cells ((unhide H9).below hu).r)
  have HS0 : Hid (Below w9.heap.size w9 w9.drew) := hide ((Below.refl _ _).drew)
  refine till_begin (S := fun w' => Below w9.heap.size w9 w') 16 (by kernel_rfl) ?_
  obtain ⟨W0, hW0⟩ : ∃ W0, w9.drew = W0 := ⟨_, rfl⟩
  try rw [hW0]
  rw [hW0] at HS0
  clear hW0
  refine till_take 0 (v := .pointer (some ⟨m.r, 0, none⟩)) (some 54) rfl rfl rfl (by kernel_rfl) (by kernel_rfl) (by kernel_rfl) (by kernel_rfl) (fun _ _ _ h => h) (Or.inl ⟨by rfl, fun u hu => by obtain ⟨r0, r1, r2, r3⟩ := unhide HF u hu; go_simp⟩) (unhide HS0) ?_
  try simp only [Act.put, List.setIfInBounds_toArray, List.set_cons_zero, List.set_cons_succ]
  refine till_take 1 (v := .pointer (some ⟨m.r, 0, none⟩)) (some 55) rfl rfl rfl (by kernel_rfl) (by kernel_rfl) (by kernel_rfl) (by kernel_rfl) (fun _ _ _ h => h) (Or.inl ⟨by rfl, fun u hu => by obtain ⟨r0, r1, r2, r3⟩ := unhide HF u hu; go_simp⟩) (unhide HS0) ?_
  try simp only [Act.put, List.setIfInBounds_toArray, List.set_cons_zero, List.set_cons_succ]
  refine till_take 2 (v := .pointer (some ⟨m.r, 0, none⟩)) (some 56) rfl rfl rfl (by kernel_rfl) (by kernel_rfl) (by kernel_rfl) (by kernel_rfl) (fun _ _ _ h => h) (Or.inl ⟨by rfl, fun u hu => by obtain ⟨r0, r1, r2, r3⟩ := unhide HF u hu; go_simp⟩) (unhide HS0) ?_
  try simp only [Act.put, List.setIfInBounds_toArray, List.set_cons_zero, List.set_cons_succ]
  refine till_take 3 (v := .pointer (some ⟨m.r, 3, none⟩)) (some 57) rfl rfl rfl (by kernel_rfl) (by kernel_rfl) (by kernel_rfl) (by kernel_rfl) (fun _ _ _ h => h) (Or.inl ⟨by rfl, fun u hu => by obtain ⟨r0, r1, r2, r3⟩ := unhide HF u hu; go_simp⟩) (unhide HS0) ?_
  try simp only [Act.put, List.setIfInBounds_toArray, List.set_cons_zero, List.set_cons_succ]
  refine till_take 4 (v := .slice (some ⟨m.t, 0, none⟩) 1 1) (some 58) rfl rfl rfl (by kernel_rfl) (by kernel_rfl) (by kernel_rfl) (by kernel_rfl) (fun _ _ _ h => h) (Or.inl ⟨by rfl, fun u hu => by obtain ⟨r0, r1, r2, r3⟩ := unhide HF u hu; go_simp⟩) (unhide HS0) ?_
  try simp only [Act.put, List.setIfInBounds_toArray, List.set_cons_zero, List.set_cons_succ]
  refine till_take 5 (v := .pointer (some ⟨m.r, 0, none⟩)) (some 59) rfl rfl rfl (by kernel_rfl) (by kernel_rfl) (by kernel_rfl) (by kernel_rfl) (fun _ _ _ h => h) (Or.inl ⟨by rfl, fun u hu => by obtain ⟨r0, r1, r2, r3⟩ := unhide HF u hu; go_simp⟩) (unhide HS0) ?_
  try simp only [Act.put, List.setIfInBounds_toArray, List.set_cons_zero, List.set_cons_succ]
  refine till_take 6 (v := .pointer (some ⟨m.r, 0, none⟩)) (some 60) rfl rfl rfl (by kernel_rfl) (by kernel_rfl) (by kernel_rfl) (by kernel_rfl) (fun _ _ _ h => h) (Or.inl ⟨by rfl, fun u hu => by obtain ⟨r0, r1, r2, r3⟩ := unhide HF u hu; go_simp⟩) (unhide HS0) ?_
  try simp only [Act.put, List.setIfInBounds_toArray, List.set_cons_zero, List.set_cons_succ]
  refine till_take 7 (v := .pointer (some ⟨m.r, 3, none⟩)) (some 61) rfl rfl rfl (by kernel_rfl) (by kernel_rfl) (by kernel_rfl) (by kernel_rfl) (fun _ _ _ h => h) (Or.inl ⟨by rfl, fun u hu => by obtain ⟨r0, r1, r2, r3⟩ := unhide HF u hu; go_simp⟩) (unhide HS0) ?_
  try simp only [Act.put, List.setIfInBounds_toArray, List.set_cons_zero, List.set_cons_succ]
  refine till_take 8 (v := .slice (some ⟨m.t, 0, none⟩) 1 1) (some 62) rfl rfl rfl (by kernel_rfl) (by kernel_rfl) (by kernel_rfl) (by kernel_rfl) (fun _ _ _ h => h) (Or.inl ⟨by rfl, fun u hu => by obtain ⟨r0, r1, r2, r3⟩ := unhide HF u hu; go_simp⟩) (unhide HS0) ?_
  try simp only [Act.put, List.setIfInBounds_toArray, List.set_cons_zero, List.set_cons_succ]
  refine till_take 9 (v := .int .i64 1) (some 63) rfl rfl rfl (by kernel_rfl) (by kernel_rfl) (by kernel_rfl) (by kernel_rfl) (fun _ _ _ h => h) (Or.inl ⟨by rfl, fun u hu => by obtain ⟨r0, r1, r2, r3⟩ := unhide HF u hu; go_simp⟩) (unhide HS0) ?_
  try simp only [Act.put, List.setIfInBounds_toArray, List.set_cons_zero, List.set_cons_succ]
  refine till_take 10 (v := .slice (some ⟨m.t, 0, none⟩) 1 1) (some 64) rfl rfl rfl (by kernel_rfl) (by kernel_rfl) (by kernel_rfl) (by kernel_rfl) (fun _ _ _ h => h) (Or.inl ⟨by rfl, fun u hu => by obtain ⟨r0, r1, r2, r3⟩ := unhide HF u hu; go_simp⟩) (unhide HS0) ?_
  try simp only [Act.put, List.setIfInBounds_toArray, List.set_cons_zero, List.set_cons_succ]
  refine till_take 11 (v := .int .i64 1) (some 65) rfl rfl rfl (by kernel_rfl) (by kernel_rfl) (by kernel_rfl) (by kernel_rfl) (fun _ _ _ h => h) (Or.inl ⟨by rfl, fun u hu => by obtain ⟨r0, r1, r2, r3⟩ := unhide HF u hu; go_simp⟩) (unhide HS0) ?_
  try simp only [Act.put, List.setIfInBounds_toArray, List.set_cons_zero, List.set_cons_succ]
  refine till_take 12 (v := .int .i64 0) (some 66) rfl rfl rfl (by kernel_rfl) (by kernel_rfl) (by kernel_rfl) (by kernel_rfl) (fun _ _ _ h => h) (Or.inl ⟨by rfl, fun u hu => by obtain ⟨r0, r1, r2, r3⟩ := unhide HF u hu; go_simp; rfl⟩) (unhide HS0) ?_
  try simp only [Act.put, List.setIfInBounds_toArray, List.set_cons_zero, List.set_cons_succ]
  refine till_take 13 (v := .slice (some ⟨m.t, 0, none⟩) 0 1) (some 67) rfl rfl rfl (by kernel_rfl) (by kernel_rfl) (by kernel_rfl) (by kernel_rfl) (fun _ _ _ h => h) (Or.inl ⟨by rfl, fun u hu => by obtain ⟨r0, r1, r2, r3⟩ := unhide HF u hu; go_simp⟩) (unhide HS0) ?_
  try simp only [Act.put, List.setIfInBounds_toArray, List.set_cons_zero, List.set_cons_succ]
  refine till_one 14 (by kernel_rfl) rfl (fun K hK => ?_)
  go_simp
  refine hK.out _ _ (Or.inr (unhide HS0)) ?_
  clear hK K
  try simp only [Act.put, List.setIfInBounds_toArray, List.set_cons_zero, List.set_cons_succ]
  refine till_one 15 (by kernel_rfl) rfl (fun K hK => ?_)
  go_simp
  refine hK.out _ _ (Or.inr (unhide HS0)) ?_
  clear hK K
  try simp only [Act.put, List.setIfInBounds_toArray, List.set_cons_zero, List.set_cons_succ]
  have H10 := hide ((unhide H9).below (unhide HS0))
  obtain ⟨r0, r1, r2, r3⟩ := four_cells (unhide H10).r
  have y3 := frozen_of_row W0 m.r 3 _ _ (unhide H10).r
  have q10 := ((unhide HS0).block Q (lt_of_row q9)).trans q9
  have B10 := hide ((unhide B9).trans ((unhide HS0).mono (unhide H9).lo.2.2.2.2.2))
  refine till_one 16 (by kernel_rfl) rfl (fun K hK => ?_)
  go_simp
  have H11 := hide ((unhide H10).setK 0)
  have q11 := (heap_setCell_other W0 ⟨m.r, 3, none⟩ Q (.slice (some ⟨m.t, 0, none⟩) 0 1) (ne_of_types q10 (unhide H10).r (by rfl))).trans q10
  have B11 := hide ((unhide B10).setCell (p := ⟨m.r, 3, none⟩) (unhide LO).2.2.1 (.slice (some ⟨m.t, 0, none⟩) 0 1))
  obtain ⟨w11, hw11⟩ : ∃ u, W0.setCell ⟨m.r, 3, none⟩ (.slice (some ⟨m.t, 0, none⟩) 0 1) = u := ⟨_, rfl⟩
  rw [hw11] at H11 q11 B11 ⊢
  clear hw11 r0 r1 r2 r3 y3
  refine hK.out _ _ (Or.inl (by first | rfl | trivial)) ?_
  clear hK K HF H9 q9 B9 H10 q10 B10 HS0
  try simp only [Act.put, List.setIfInBounds_toArray, List.set_cons_zero, List.set_cons_succ]
  refine till_done (by kernel_rfl) ?_ _
  have CE := hide (effect_ret (q := m.q) (unhide H11).t)
  obtain ⟨p0, p1⟩ := two_cells q11
  go_wp2_with fail
  refine (unhide CE).mono ?_
  rintro e w12 ⟨rfl, b12⟩
  have H12 := hide ((unhide H11).below b12)
  have B12 := hide ((unhide B11).trans (b12.mono (unhide H11).lo.2.2.2.2.2))
  clear b12 H11 B11 CE p0 p1 q11
  have CF := hide (follow_leaves (x0 := x0) (x1 := x1) (x2 := x2) (al := al) (ak := ak) (ll := ll) (cl := cl) (lk := lk) (ck := ck) (unhide HH).2.1 (unhide H12).q (unhide H12).g)
  go_wp2_with fail
  refine (unhide CF).mono ?_
  rintro e w13 ⟨rfl, f1, f3⟩
  have hgq := ne_of_types (unhide H12).g (unhide H12).q (by rfl)
  have HE := hide (And.intro f1 (And.intro ((unhide H12).g.later (f3.block m.g (unhide H12).g.lt hgq)) ((unhide B12).trans (f3.low (fun k e => by rw [e]; exact (unhide LO).1) (unhide H12).lo.2.2.2.2.2))))
  clear hgq f1 f3
  clear CF H12 B12
  go_wp2_with fail
  go_ret
  exact ⟨rfl, unhide HE⟩
end Go.Proofs.YtmnbfcpkaglniaaGreatDoor

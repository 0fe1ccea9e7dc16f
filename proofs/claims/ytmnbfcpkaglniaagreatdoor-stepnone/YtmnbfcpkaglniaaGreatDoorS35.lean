/-
  Layer 15 (step): a machine in memory; what goesOn, top, ahead, taken, takes, weight answer of it; conditions: the package's variables.
-/
import Derived.Test.YtmnbfcpkaglniaaGreatDoorS34
import Derived.Test.YtmnbfcpkaglniaaGreatDoorS03
set_option linter.unusedVariables false
set_option linter.unusedSimpArgs false
namespace Go.Proofs.YtmnbfcpkaglniaaGreatDoor
open Go.RowKit
set_option linter.unusedVariables false
set_option linter.unusedSimpArgs false
/-- the cells of a machine that goes on -/
def rnC (C F S FR : Value) (g : Nat) (n : Int) : Array Value := #[C, F, S, .pointer (some ⟨g, 0, none⟩), FR, .int .i64 n, .int .i64 0, .int .i64 0, .int .i64 0, .string ⟨#[]⟩, .slice none 0 0, .slice none 0 0, .int .i64 0, .int .i64 0]
theorem rn_cells {w : World} {q : Nat} {C F S FR : Value} {g : Nat} {n : Int} {T : TypeId} (h : w.heap[q]? = some (.cells (rnC C F S FR g n) T (0, 0))) :
    w.cell? ⟨q, 0, none⟩ = some C ∧ w.cell? ⟨q, 1, none⟩ = some F ∧ w.cell? ⟨q, 2, none⟩ = some S ∧ w.cell? ⟨q, 3, none⟩ = some (.pointer (some ⟨g, 0, none⟩)) ∧ w.cell? ⟨q, 4, none⟩ = some FR ∧ w.cell? ⟨q, 5, none⟩ = some (.int .i64 n) :=
  ⟨by rw [cell_of_row w _ 0 _ _ (0, 0) h]; rfl, by rw [cell_of_row w _ 1 _ _ (0, 0) h]; rfl, by rw [cell_of_row w _ 2 _ _ (0, 0) h]; rfl, by rw [cell_of_row w _ 3 _ _ (0, 0) h]; rfl, by rw [cell_of_row w _ 4 _ _ (0, 0) h]; rfl, by rw [cell_of_row w _ 5 _ _ (0, 0) h]; rfl⟩
theorem four_cells {w : World} {r : Nat} {a b c d : Value} {z : List Value} {T : TypeId} (h : w.heap[r]? = some (.cells (a :: b :: c :: d :: z).toArray T (0, 0))) :
    w.cell? ⟨r, 0, none⟩ = some a ∧ w.cell? ⟨r, 1, none⟩ = some b ∧ w.cell? ⟨r, 2, none⟩ = some c ∧ w.cell? ⟨r, 3, none⟩ = some d :=
  ⟨by rw [cell_of_row w _ 0 _ _ (0, 0) h]; rfl, by rw [cell_of_row w _ 1 _ _ (0, 0) h]; rfl, by rw [cell_of_row w _ 2 _ _ (0, 0) h]; rfl, by rw [cell_of_row w _ 3 _ _ (0, 0) h]; rfl⟩
theorem two_cells {w : World} {g : Nat} {x0 x1 : Value} {T : TypeId} (h : w.heap[g]? = some (.cells #[x0, x1] T (0, 0))) : w.cell? ⟨g, 0, none⟩ = some x0 ∧ w.cell? ⟨g, 1, none⟩ = some x1 :=
  ⟨by rw [cell_of_row w _ 0 _ _ (0, 0) h]; rfl, by rw [cell_of_row w _ 1 _ _ (0, 0) h]; rfl⟩
theorem set2_at {w : World} {q : Nat} {z0 z1 : Value} {T : TypeId} (h : w.heap[q]? = some (.cells #[z0, z1] T (0, 0))) (y0 y1 : Value) : ((w.setCell ⟨q, 0, none⟩ y0).setCell ⟨q, 1, none⟩ y1).heap[q]? = some (.cells #[y0, y1] T (0, 0)) := by
  have h1 := heap_setCell_same w q 0 _ T y0 h
  exact heap_setCell_same _ q 1 _ T y1 h1
theorem goes_on {w : World} {q r rc g : Nat} {C F S : Value} {n : Int} (h : w.heap[q]? = some (.cells (rnC C F S (.slice (some ⟨r, 0, none⟩) 1 rc) g n) 62 (0, 0))) : Calls Tryz.prog 11 #[.pointer (some ⟨q, 0, none⟩)] w fun e w' => e = .returned (.bool true) ∧ w' = w := by
  obtain ⟨c0, c1, c2, c3, c4, c5⟩ := rn_cells h
  clear h
  go_enter Tryz.func11, Tryz.ntmps11
  go_wp2_with fail
  go_ret
  exact ⟨rfl, rfl⟩
set_option maxHeartbeats 4000000 in
theorem top_on {w : World} {q r rc g : Nat} {C F S : Value} {n : Int} (hrc : 1 ≤ rc) (h : w.heap[q]? = some (.cells (rnC C F S (.slice (some ⟨r, 0, none⟩) 1 rc) g n) 62 (0, 0))) : Calls Tryz.prog 18 #[.pointer (some ⟨q, 0, none⟩)] w fun e w' => e = .returned (.pointer (some ⟨r, 0, none⟩)) ∧ Below w.heap.size w w' := by
  obtain ⟨c0, c1, c2, c3, c4, c5⟩ := rn_cells h
  clear h
  go_enter Tryz.func18, Tryz.ntmps18
  go_wp2_with fail
  go_quiet (fail)
  go_wp2_with fail
  go_ret
  exact ⟨rfl, below_drewN (Below.refl _ _) _⟩
set_option maxRecDepth 100000 in
set_option maxHeartbeats 8000000 in
theorem ahead_on {w : World} {q r rc g f fc b bc : Nat} {C S L K : Value} {n at0 op ar bh er : Int} {z zf : List Value} (hrc : 1 ≤ rc) (hfc : 1 ≤ fc) (hbc : bc ≤ 9223372036854775807) (htk : takeI [1, 0, 9] at0 = (op, ar, bh, er))
    (hq : w.heap[q]? = some (.cells (rnC C (.slice (some ⟨f, 0, none⟩) 1 fc) S (.slice (some ⟨r, 0, none⟩) 1 rc) g n) 62 (0, 0)))
    (hr : w.heap[r]? = some (.cells (.int .i64 0 :: .int .i64 at0 :: L :: K :: z).toArray 67 (0, 0)))
    (hf : w.heap[f]? = some (.cells (.int .i64 0 :: .int .i64 0 :: .int .i64 1 :: .slice (some ⟨b, 0, none⟩) 3 bc :: zf).toArray 92 (0, 0)))
    (hb : Row8 w (some ⟨b, 0, none⟩) 3 bc [1, 0, 9]) (hT : Tab2 w) : Calls Tryz.prog 12 #[.pointer (some ⟨q, 0, none⟩)] w fun e w' => e = .returned (.tuple #[.agg #[.int .i64 op, .int .i64 ar], .int .i64 bh]) ∧ Below w.heap.size w w' := by
  obtain ⟨w0, hw0⟩ : ∃ u, w.alloc (.cells #[.int .i64 0, .int .i64 0] 36) = u := ⟨_, rfl⟩
  have b0 : Below w.heap.size w w0 := by rw [← hw0]; exact (Below.refl _ _).alloc (Nat.le_refl _) _
  have HW : Hid (∀ u, Below w.heap.size w u → u.heap[q]? = some (.cells (rnC C (.slice (some ⟨f, 0, none⟩) 1 fc) S (.slice (some ⟨r, 0, none⟩) 1 rc) g n) 62 (0, 0)) ∧ u.heap[r]? = some (.cells (.int .i64 0 :: .int .i64 at0 :: L :: K :: z).toArray 67 (0, 0)) ∧ u.heap[f]? = some (.cells (.int .i64 0 :: .int .i64 0 :: .int .i64 1 :: .slice (some ⟨b, 0, none⟩) 3 bc :: zf).toArray 92 (0, 0)) ∧ Row8 u (some ⟨b, 0, none⟩) 3 bc [1, 0, 9] ∧ Tab2 u) :=
    hide (fun u hu => ⟨(hu.block q (lt_of_row hq)).trans hq, (hu.block r (lt_of_row hr)).trans hr, (hu.block f (lt_of_row hf)).trans hf, hb.later hu, hT.below hu⟩)
  have CTop := hide (top_on hrc ((unhide HW) w0 b0).1)
  have a0 : w0.heap[w.heap.size]? = some (.cells #[.int .i64 0, .int .i64 0] 36 (0, 0)) := by rw [← hw0]; exact heap_alloc_new _ _
  obtain ⟨G, hG⟩ : ∃ G, w.heap.size = G := ⟨_, rfl⟩
  have z0 : w0.heap.size = G + 1 := by rw [← hw0, ← hG]; simp
  clear hq hr hf hb hT
  go_enter Tryz.func12, Tryz.ntmps12
  go_upto_region 1 with fail
  try rw [hw0]
  rw [hG] at a0
  try rw [hG]
  go_wp2_with fail
  refine (unhide CTop).mono ?_
  rintro e w1 ⟨rfl, b1⟩
  have a1 := hide ((b1.block G (by omega)).trans a0)
  have B1 := hide (b0.trans (b1.mono b0.size))
  have HF : Hid (∀ u, Below w1.heap.size w1 u → (u.cell? ⟨q, 0, none⟩ = some C ∧ u.cell? ⟨q, 1, none⟩ = some (.slice (some ⟨f, 0, none⟩) 1 fc) ∧ u.cell? ⟨q, 2, none⟩ = some S ∧ u.cell? ⟨q, 3, none⟩ = some (.pointer (some ⟨g, 0, none⟩)) ∧ u.cell? ⟨q, 4, none⟩ = some (.slice (some ⟨r, 0, none⟩) 1 rc) ∧ u.cell? ⟨q, 5, none⟩ = some (.int .i64 n)) ∧ (u.cell? ⟨r, 0, none⟩ = some (.int .i64 0) ∧ u.cell? ⟨r, 1, none⟩ = some (.int .i64 at0) ∧ u.cell? ⟨r, 2, none⟩ = some L ∧ u.cell? ⟨r, 3, none⟩ = some K) ∧ (u.cell? ⟨f, 0, none⟩ = some (.int .i64 0) ∧ u.cell? ⟨f, 1, none⟩ = some (.int .i64 0) ∧ u.cell? ⟨f, 2, none⟩ = some (.int .i64 1) ∧ u.cell? ⟨f, 3, none⟩ = some (.slice (some ⟨b, 0, none⟩) 3 bc)) ∧ Row8 u (some ⟨b, 0, none⟩) 3 bc [1, 0, 9] ∧ Tab2 u) :=
    hide (fun u hu => by
      obtain ⟨x1, x2, x3, x4, x5⟩ := (unhide HW) u ((unhide B1).trans (hu.mono (unhide B1).size))
      exact ⟨rn_cells x1, four_cells x2, four_cells x3, x4, x5⟩)
  clear CTop b1 a0 b0 hw0 HW z0
  go_upto_region 2 with fail
  have HS0 : Hid (Below w1.heap.size w1 w1.drew) := hide ((Below.refl _ _).drew)
  refine till_begin (S := fun w' => Below w1.heap.size w1 w') 99 (by kernel_rfl) ?_
  obtain ⟨W0, hW0⟩ : ∃ W0, w1.drew = W0 := ⟨_, rfl⟩
  try rw [hW0]
  rw [hW0] at HS0
  clear hW0
  refine till_takeN 0 (v := .pointer (some ⟨q, 0, none⟩)) (some 11) rfl rfl rfl (by kernel_rfl) (by kernel_rfl) (by kernel_rfl) (fun _ _ _ h => h) (Or.inl ⟨by rfl, fun u hu => by obtain ⟨⟨c0, c1, c2, c3, c4, c5⟩, ⟨r0, r1, r2, r3⟩, ⟨f0, f1, f2, f3⟩, hb, ht⟩ := unhide HF u hu; go_simp⟩) (unhide HS0) ?_
  try simp only [Act.put, List.setIfInBounds_toArray, List.set_cons_zero, List.set_cons_succ]
  refine till_takeN 1 (v := .pointer (some ⟨q, 0, none⟩)) (some 12) rfl rfl rfl (by kernel_rfl) (by kernel_rfl) (by kernel_rfl) (fun _ _ _ h => h) (Or.inl ⟨by rfl, fun u hu => by obtain ⟨⟨c0, c1, c2, c3, c4, c5⟩, ⟨r0, r1, r2, r3⟩, ⟨f0, f1, f2, f3⟩, hb, ht⟩ := unhide HF u hu; go_simp⟩) (unhide HS0) ?_
  try simp only [Act.put, List.setIfInBounds_toArray, List.set_cons_zero, List.set_cons_succ]
  refine till_takeN 2 (v := .pointer (some ⟨q, 1, none⟩)) (some 13) rfl rfl rfl (by kernel_rfl) (by kernel_rfl) (by kernel_rfl) (fun _ _ _ h => h) (Or.inl ⟨by rfl, fun u hu => by obtain ⟨⟨c0, c1, c2, c3, c4, c5⟩, ⟨r0, r1, r2, r3⟩, ⟨f0, f1, f2, f3⟩, hb, ht⟩ := unhide HF u hu; go_simp⟩) (unhide HS0) ?_
  try simp only [Act.put, List.setIfInBounds_toArray, List.set_cons_zero, List.set_cons_succ]
  refine till_takeN 3 (v := .slice (some ⟨f, 0, none⟩) 1 fc) (some 14) rfl rfl rfl (by kernel_rfl) (by kernel_rfl) (by kernel_rfl) (fun _ _ _ h => h) (Or.inl ⟨by rfl, fun u hu => by obtain ⟨⟨c0, c1, c2, c3, c4, c5⟩, ⟨r0, r1, r2, r3⟩, ⟨f0, f1, f2, f3⟩, hb, ht⟩ := unhide HF u hu; go_simp⟩) (unhide HS0) ?_
  try simp only [Act.put, List.setIfInBounds_toArray, List.set_cons_zero, List.set_cons_succ]
  refine till_takeN 4 (v := .pointer (some ⟨r, 0, none⟩)) (some 15) rfl rfl rfl (by kernel_rfl) (by kernel_rfl) (by kernel_rfl) (fun _ _ _ h => h) (Or.inl ⟨by rfl, fun u hu => by obtain ⟨⟨c0, c1, c2, c3, c4, c5⟩, ⟨r0, r1, r2, r3⟩, ⟨f0, f1, f2, f3⟩, hb, ht⟩ := unhide HF u hu; go_simp⟩) (unhide HS0) ?_
  try simp only [Act.put, List.setIfInBounds_toArray, List.set_cons_zero, List.set_cons_succ]
  refine till_takeN 5 (v := .pointer (some ⟨r, 0, none⟩)) (some 16) rfl rfl rfl (by kernel_rfl) (by kernel_rfl) (by kernel_rfl) (fun _ _ _ h => h) (Or.inl ⟨by rfl, fun u hu => by obtain ⟨⟨c0, c1, c2, c3, c4, c5⟩, ⟨r0, r1, r2, r3⟩, ⟨f0, f1, f2, f3⟩, hb, ht⟩ := unhide HF u hu; go_simp⟩) (unhide HS0) ?_
  try simp only [Act.put, List.setIfInBounds_toArray, List.set_cons_zero, List.set_cons_succ]
  refine till_takeN 6 (v := .pointer (some ⟨r, 0, none⟩)) (some 17) rfl rfl rfl (by kernel_rfl) (by kernel_rfl) (by kernel_rfl) (fun _ _ _ h => h) (Or.inl ⟨by rfl, fun u hu => by obtain ⟨⟨c0, c1, c2, c3, c4, c5⟩, ⟨r0, r1, r2, r3⟩, ⟨f0, f1, f2, f3⟩, hb, ht⟩ := unhide HF u hu; go_simp⟩) (unhide HS0) ?_
  try simp only [Act.put, List.setIfInBounds_toArray, List.set_cons_zero, List.set_cons_succ]
  refine till_takeN 7 (v := .int .i64 0) (some 18) rfl rfl rfl (by kernel_rfl) (by kernel_rfl) (by kernel_rfl) (fun _ _ _ h => h) (Or.inl ⟨by rfl, fun u hu => by obtain ⟨⟨c0, c1, c2, c3, c4, c5⟩, ⟨r0, r1, r2, r3⟩, ⟨f0, f1, f2, f3⟩, hb, ht⟩ := unhide HF u hu; go_simp⟩) (unhide HS0) ?_
  try simp only [Act.put, List.setIfInBounds_toArray, List.set_cons_zero, List.set_cons_succ]
  refine till_takeN 8 (v := .pointer (some ⟨f, 0, none⟩)) (some 19) rfl rfl rfl (by kernel_rfl) (by kernel_rfl) (by kernel_rfl) (fun _ _ _ h => h) (Or.inl ⟨by rfl, fun u hu => by obtain ⟨⟨c0, c1, c2, c3, c4, c5⟩, ⟨r0, r1, r2, r3⟩, ⟨f0, f1, f2, f3⟩, hb, ht⟩ := unhide HF u hu; go_simp⟩) (unhide HS0) ?_
  try simp only [Act.put, List.setIfInBounds_toArray, List.set_cons_zero, List.set_cons_succ]
  refine till_takeN 9 (v := .pointer (some ⟨f, 3, none⟩)) (some 20) rfl rfl rfl (by kernel_rfl) (by kernel_rfl) (by kernel_rfl) (fun _ _ _ h => h) (Or.inl ⟨by rfl, fun u hu => by obtain ⟨⟨c0, c1, c2, c3, c4, c5⟩, ⟨r0, r1, r2, r3⟩, ⟨f0, f1, f2, f3⟩, hb, ht⟩ := unhide HF u hu; go_simp⟩) (unhide HS0) ?_
  try simp only [Act.put, List.setIfInBounds_toArray, List.set_cons_zero, List.set_cons_succ]
  refine till_takeN 10 (v := .slice (some ⟨b, 0, none⟩) 3 bc) (some 21) rfl rfl rfl (by kernel_rfl) (by kernel_rfl) (by kernel_rfl) (fun _ _ _ h => h) (Or.inl ⟨by rfl, fun u hu => by obtain ⟨⟨c0, c1, c2, c3, c4, c5⟩, ⟨r0, r1, r2, r3⟩, ⟨f0, f1, f2, f3⟩, hb, ht⟩ := unhide HF u hu; go_simp⟩) (unhide HS0) ?_
  try simp only [Act.put, List.setIfInBounds_toArray, List.set_cons_zero, List.set_cons_succ]
  refine till_takeN 11 (v := .pointer (some ⟨r, 0, none⟩)) (some 22) rfl rfl rfl (by kernel_rfl) (by kernel_rfl) (by kernel_rfl) (fun _ _ _ h => h) (Or.inl ⟨by rfl, fun u hu => by obtain ⟨⟨c0, c1, c2, c3, c4, c5⟩, ⟨r0, r1, r2, r3⟩, ⟨f0, f1, f2, f3⟩, hb, ht⟩ := unhide HF u hu; go_simp⟩) (unhide HS0) ?_
  try simp only [Act.put, List.setIfInBounds_toArray, List.set_cons_zero, List.set_cons_succ]
  refine till_takeN 12 (v := .pointer (some ⟨r, 0, none⟩)) (some 23) rfl rfl rfl (by kernel_rfl) (by kernel_rfl) (by kernel_rfl) (fun _ _ _ h => h) (Or.inl ⟨by rfl, fun u hu => by obtain ⟨⟨c0, c1, c2, c3, c4, c5⟩, ⟨r0, r1, r2, r3⟩, ⟨f0, f1, f2, f3⟩, hb, ht⟩ := unhide HF u hu; go_simp⟩) (unhide HS0) ?_
  try simp only [Act.put, List.setIfInBounds_toArray, List.set_cons_zero, List.set_cons_succ]
  refine till_takeN 13 (v := .pointer (some ⟨r, 1, none⟩)) (some 24) rfl rfl rfl (by kernel_rfl) (by kernel_rfl) (by kernel_rfl) (fun _ _ _ h => h) (Or.inl ⟨by rfl, fun u hu => by obtain ⟨⟨c0, c1, c2, c3, c4, c5⟩, ⟨r0, r1, r2, r3⟩, ⟨f0, f1, f2, f3⟩, hb, ht⟩ := unhide HF u hu; go_simp⟩) (unhide HS0) ?_
  try simp only [Act.put, List.setIfInBounds_toArray, List.set_cons_zero, List.set_cons_succ]
  refine till_takeN 14 (v := .int .i64 at0) (some 25) rfl rfl rfl (by kernel_rfl) (by kernel_rfl) (by kernel_rfl) (fun _ _ _ h => h) (Or.inl ⟨by rfl, fun u hu => by obtain ⟨⟨c0, c1, c2, c3, c4, c5⟩, ⟨r0, r1, r2, r3⟩, ⟨f0, f1, f2, f3⟩, hb, ht⟩ := unhide HF u hu; go_simp⟩) (unhide HS0) ?_
  try simp only [Act.put, List.setIfInBounds_toArray, List.set_cons_zero, List.set_cons_succ]
  refine till_two 15 20 (by kernel_rfl) rfl rfl (fun K hK => ?_) (fun K hK => ?_)
  · have CT := hide (take_any (some ⟨b, 0, none⟩) 3 bc [1, 0, 9] at0 W0 (unhide HF W0 (unhide HS0)).2.2.2.2 (unhide HF W0 (unhide HS0)).2.2.2.1 hbc)
    rw [htk] at CT
    simp only [takeV] at CT
    go_simp
    refine (unhide CT).mono ?_
    rintro e W1 ⟨rfl, bb⟩
    have HS1 : Hid (Below w1.heap.size w1 W1) := hide ((unhide HS0).trans (bb.mono (unhide HS0).size))
    clear CT bb
    go_wp2_with fail
    refine hK.out _ _ (Or.inr (unhide HS1)) ?_
    clear hK K
    try simp only [Act.put, List.setIfInBounds_toArray, List.set_cons_zero, List.set_cons_succ]
    refine till_takeN 16 (v := .tuple #[.agg #[.int .i64 op, .int .i64 ar], .int .i64 bh, .int .i64 er]) (some 10) rfl rfl rfl (by kernel_rfl) (by kernel_rfl) (by kernel_rfl) (fun _ _ _ h => h) (Or.inl ⟨by rfl, fun u hu => by obtain ⟨⟨c0, c1, c2, c3, c4, c5⟩, ⟨r0, r1, r2, r3⟩, ⟨f0, f1, f2, f3⟩, hb, ht⟩ := unhide HF u hu; go_simp⟩) (unhide HS1) ?_
    try simp only [Act.put, List.setIfInBounds_toArray, List.set_cons_zero, List.set_cons_succ]
    refine till_takeN 17 (v := .agg #[.int .i64 op, .int .i64 ar]) (some 27) rfl rfl rfl (by kernel_rfl) (by kernel_rfl) (by kernel_rfl) (fun _ _ _ h => h) (Or.inl ⟨by rfl, fun u hu => by obtain ⟨⟨c0, c1, c2, c3, c4, c5⟩, ⟨r0, r1, r2, r3⟩, ⟨f0, f1, f2, f3⟩, hb, ht⟩ := unhide HF u hu; go_simp⟩) (unhide HS1) ?_
    try simp only [Act.put, List.setIfInBounds_toArray, List.set_cons_zero, List.set_cons_succ]
    refine till_takeN 18 (v := .int .i64 bh) (some 28) rfl rfl rfl (by kernel_rfl) (by kernel_rfl) (by kernel_rfl) (fun _ _ _ h => h) (Or.inl ⟨by rfl, fun u hu => by obtain ⟨⟨c0, c1, c2, c3, c4, c5⟩, ⟨r0, r1, r2, r3⟩, ⟨f0, f1, f2, f3⟩, hb, ht⟩ := unhide HF u hu; go_simp⟩) (unhide HS1) ?_
    try simp only [Act.put, List.setIfInBounds_toArray, List.set_cons_zero, List.set_cons_succ]
    refine till_takeN 19 (v := .int .i64 er) (some 29) rfl rfl rfl (by kernel_rfl) (by kernel_rfl) (by kernel_rfl) (fun _ _ _ h => h) (Or.inl ⟨by rfl, fun u hu => by obtain ⟨⟨c0, c1, c2, c3, c4, c5⟩, ⟨r0, r1, r2, r3⟩, ⟨f0, f1, f2, f3⟩, hb, ht⟩ := unhide HF u hu; go_simp⟩) (unhide HS1) ?_
    try simp only [Act.put, List.setIfInBounds_toArray, List.set_cons_zero, List.set_cons_succ]
    refine till_one 20 (by kernel_rfl) rfl (fun K hK => ?_)
    go_simp
    have HS2 : Hid (Below w1.heap.size w1 (W1.alloc (.cells #[.int .i64 0, .int .i64 0] 36))) := hide ((unhide HS1).alloc (unhide HS1).size _)
    obtain ⟨W2, hW2⟩ : ∃ u, W1.alloc (.cells #[.int .i64 0, .int .i64 0] 36) = u := ⟨_, rfl⟩
    obtain ⟨Q, hQ⟩ : ∃ Q, W1.heap.size = Q := ⟨_, rfl⟩
    have hq5 : W2.heap[Q]? = some (.cells #[.int .i64 0, .int .i64 0] 36 (0, 0)) := by rw [← hW2, ← hQ]; exact heap_alloc_new _ _
    have hQw : w1.heap.size ≤ Q := by rw [← hQ]; exact (unhide HS1).size
    rw [hW2] at HS2 ⊢
    rw [hQ]
    clear hW2 hQ
    refine hK.out _ _ (Or.inr (unhide HS2)) ?_
    clear hK K
    try simp only [Act.put, List.setIfInBounds_toArray, List.set_cons_zero, List.set_cons_succ]
    obtain ⟨q0, q1⟩ := two_cells hq5
    have y0 := frozen_of_row W2 Q 0 _ _ hq5
    have y1 := frozen_of_row W2 Q 1 _ _ hq5
    refine till_one 21 (by kernel_rfl) rfl (fun K hK => ?_)
    go_simp
    have hq9 := set2_at hq5 (.int .i64 op) (.int .i64 ar)
    have HS3 : Hid (Below w1.heap.size w1 ((W2.setCell ⟨Q, 0, none⟩ (.int .i64 op)).setCell ⟨Q, 1, none⟩ (.int .i64 ar))) := hide (((unhide HS2).setCell (p := ⟨Q, 0, none⟩) hQw _).setCell (p := ⟨Q, 1, none⟩) hQw _)
    obtain ⟨W3, hW3⟩ : ∃ u, (W2.setCell ⟨Q, 0, none⟩ (.int .i64 op)).setCell ⟨Q, 1, none⟩ (.int .i64 ar) = u := ⟨_, rfl⟩
    rw [hW3] at HS3 hq9 ⊢
    clear hW3 q0 q1 y0 y1
    refine hK.out _ _ (Or.inr (unhide HS3)) ?_
    clear hK K
    try simp only [Act.put, List.setIfInBounds_toArray, List.set_cons_zero, List.set_cons_succ]
    refine till_one 22 (by kernel_rfl) rfl (fun K hK => ?_)
    go_simp
    refine hK.out _ _ (Or.inr (unhide HS3)) ?_
    clear hK K
    try simp only [Act.put, List.setIfInBounds_toArray, List.set_cons_zero, List.set_cons_succ]
    refine till_one 23 (by kernel_rfl) rfl (fun K hK => ?_)
    go_simp
    refine hK.out _ _ (Or.inr (unhide HS3)) ?_
    clear hK K
    try simp only [Act.put, List.setIfInBounds_toArray, List.set_cons_zero, List.set_cons_succ]
    refine till_done (by kernel_rfl) ?_ _
    have hq10 := hide hq9
    have ha := (unhide HS3).block G (lt_of_row (unhide a1))
    have ha1 := ha.trans (unhide a1)
    obtain ⟨q0, q1⟩ := two_cells hq9
    obtain ⟨p0, p1⟩ := two_cells ha1
    have y0 := frozen_of_row W3 G 0 _ _ ha1
    have y1 := frozen_of_row W3 G 1 _ _ ha1
    have HE := hide (And.intro (set2_at ha1 (.int .i64 op) (.int .i64 ar)) ((((unhide B1).trans ((unhide HS3).mono (unhide B1).size)).setCell (p := ⟨G, 0, none⟩) (Nat.le_of_eq hG) (.int .i64 op)).setCell (p := ⟨G, 1, none⟩) (Nat.le_of_eq hG) (.int .i64 ar)))
    clear ha hq9
    go_wp2_with fail
    exact bodyPost_ret (ret_ct (p := 2) (u := 3) (T := 36) rfl _ _ G _ _ _ rfl (unhide HE).1 Tryz.underlying36 rfl size_ins0) rfl ⟨rfl, (unhide HE).2⟩
  · go_simp
    have HS1 : Hid (Below w1.heap.size w1 (W0.alloc (.cells #[.int .i64 0, .int .i64 0] 36))) := hide ((unhide HS0).alloc (unhide HS0).size _)
    obtain ⟨W1, hW1⟩ : ∃ u, W0.alloc (.cells #[.int .i64 0, .int .i64 0] 36) = u := ⟨_, rfl⟩
    obtain ⟨Q, hQ⟩ : ∃ Q, W0.heap.size = Q := ⟨_, rfl⟩
    have hq5 : W1.heap[Q]? = some (.cells #[.int .i64 0, .int .i64 0] 36 (0, 0)) := by rw [← hW1, ← hQ]; exact heap_alloc_new _ _
    have hQw : w1.heap.size ≤ Q := by rw [← hQ]; exact (unhide HS0).size
    rw [hW1] at HS1 ⊢
    rw [hQ]
    clear hW1 hQ
    refine hK.out _ _ (Or.inr (unhide HS1)) ?_
    clear hK K
    try simp only [Act.put, List.setIfInBounds_toArray, List.set_cons_zero, List.set_cons_succ]
    refine till_one 15 (by kernel_rfl) rfl (fun K hK => ?_)
    have CT := hide (take_any (some ⟨b, 0, none⟩) 3 bc [1, 0, 9] at0 W1 (unhide HF W1 (unhide HS1)).2.2.2.2 (unhide HF W1 (unhide HS1)).2.2.2.1 hbc)
    rw [htk] at CT
    simp only [takeV] at CT
    go_simp
    refine (unhide CT).mono ?_
    rintro e W2 ⟨rfl, bb⟩
    have HS2 : Hid (Below w1.heap.size w1 W2) := hide ((unhide HS1).trans (bb.mono (unhide HS1).size))
    have hq6 := (bb.block Q (lt_of_row hq5)).trans hq5
    clear CT bb
    go_wp2_with fail
    refine hK.out _ _ (Or.inr (unhide HS2)) ?_
    clear hK K
    try simp only [Act.put, List.setIfInBounds_toArray, List.set_cons_zero, List.set_cons_succ]
    refine till_takeN 16 (v := .tuple #[.agg #[.int .i64 op, .int .i64 ar], .int .i64 bh, .int .i64 er]) (some 10) rfl rfl rfl (by kernel_rfl) (by kernel_rfl) (by kernel_rfl) (fun _ _ _ h => h) (Or.inl ⟨by rfl, fun u hu => by obtain ⟨⟨c0, c1, c2, c3, c4, c5⟩, ⟨r0, r1, r2, r3⟩, ⟨f0, f1, f2, f3⟩, hb, ht⟩ := unhide HF u hu; go_simp⟩) (unhide HS2) ?_
    try simp only [Act.put, List.setIfInBounds_toArray, List.set_cons_zero, List.set_cons_succ]
    refine till_takeN 17 (v := .agg #[.int .i64 op, .int .i64 ar]) (some 27) rfl rfl rfl (by kernel_rfl) (by kernel_rfl) (by kernel_rfl) (fun _ _ _ h => h) (Or.inl ⟨by rfl, fun u hu => by obtain ⟨⟨c0, c1, c2, c3, c4, c5⟩, ⟨r0, r1, r2, r3⟩, ⟨f0, f1, f2, f3⟩, hb, ht⟩ := unhide HF u hu; go_simp⟩) (unhide HS2) ?_
    try simp only [Act.put, List.setIfInBounds_toArray, List.set_cons_zero, List.set_cons_succ]
    refine till_takeN 18 (v := .int .i64 bh) (some 28) rfl rfl rfl (by kernel_rfl) (by kernel_rfl) (by kernel_rfl) (fun _ _ _ h => h) (Or.inl ⟨by rfl, fun u hu => by obtain ⟨⟨c0, c1, c2, c3, c4, c5⟩, ⟨r0, r1, r2, r3⟩, ⟨f0, f1, f2, f3⟩, hb, ht⟩ := unhide HF u hu; go_simp⟩) (unhide HS2) ?_
    try simp only [Act.put, List.setIfInBounds_toArray, List.set_cons_zero, List.set_cons_succ]
    refine till_takeN 19 (v := .int .i64 er) (some 29) rfl rfl rfl (by kernel_rfl) (by kernel_rfl) (by kernel_rfl) (fun _ _ _ h => h) (Or.inl ⟨by rfl, fun u hu => by obtain ⟨⟨c0, c1, c2, c3, c4, c5⟩, ⟨r0, r1, r2, r3⟩, ⟨f0, f1, f2, f3⟩, hb, ht⟩ := unhide HF u hu; go_simp⟩) (unhide HS2) ?_
    try simp only [Act.put, List.setIfInBounds_toArray, List.set_cons_zero, List.set_cons_succ]
    obtain ⟨q0, q1⟩ := two_cells hq6
    have y0 := frozen_of_row W2 Q 0 _ _ hq6
    have y1 := frozen_of_row W2 Q 1 _ _ hq6
    refine till_one 21 (by kernel_rfl) rfl (fun K hK => ?_)
    go_simp
    have hq9 := set2_at hq6 (.int .i64 op) (.int .i64 ar)
    have HS3 : Hid (Below w1.heap.size w1 ((W2.setCell ⟨Q, 0, none⟩ (.int .i64 op)).setCell ⟨Q, 1, none⟩ (.int .i64 ar))) := hide (((unhide HS2).setCell (p := ⟨Q, 0, none⟩) hQw _).setCell (p := ⟨Q, 1, none⟩) hQw _)
    obtain ⟨W3, hW3⟩ : ∃ u, (W2.setCell ⟨Q, 0, none⟩ (.int .i64 op)).setCell ⟨Q, 1, none⟩ (.int .i64 ar) = u := ⟨_, rfl⟩
    rw [hW3] at HS3 hq9 ⊢
    clear hW3 q0 q1 y0 y1
    refine hK.out _ _ (Or.inr (unhide HS3)) ?_
    clear hK K
    try simp only [Act.put, List.setIfInBounds_toArray, List.set_cons_zero, List.set_cons_succ]
    refine till_one 22 (by kernel_rfl) rfl (fun K hK => ?_)
    go_simp
    refine hK.out _ _ (Or.inr (unhide HS3)) ?_
    clear hK K
    try simp only [Act.put, List.setIfInBounds_toArray, List.set_cons_zero, List.set_cons_succ]
    refine till_one 23 (by kernel_rfl) rfl (fun K hK => ?_)
    go_simp
    refine hK.out _ _ (Or.inr (unhide HS3)) ?_
    clear hK K
    try simp only [Act.put, List.setIfInBounds_toArray, List.set_cons_zero, List.set_cons_succ]
    refine till_done (by kernel_rfl) ?_ _
    have hq10 := hide hq9
    have ha := (unhide HS3).block G (lt_of_row (unhide a1))
    have ha1 := ha.trans (unhide a1)
    obtain ⟨q0, q1⟩ := two_cells hq9
    obtain ⟨p0, p1⟩ := two_cells ha1
    have y0 := frozen_of_row W3 G 0 _ _ ha1
    have y1 := frozen_of_row W3 G 1 _ _ ha1
    have HE := hide (And.intro (set2_at ha1 (.int .i64 op) (.int .i64 ar)) ((((unhide B1).trans ((unhide HS3).mono (unhide B1).size)).setCell (p := ⟨G, 0, none⟩) (Nat.le_of_eq hG) (.int .i64 op)).setCell (p := ⟨G, 1, none⟩) (Nat.le_of_eq hG) (.int .i64 ar)))
    clear ha hq9
    go_wp2_with fail
    exact bodyPost_ret (ret_ct (p := 2) (u := 3) (T := 36) rfl _ _ G _ _ _ rfl (unhide HE).1 Tryz.underlying36 rfl size_ins0) rfl ⟨rfl, (unhide HE).2⟩
theorem info_op {op tk : Int} (h : op = 1 ∧ tk = 0 ∨ op = 9 ∧ tk = 1) : ∃ s a c d, infoA op = ((s, a, tk, c, d, 0), true) := by
  rcases h with ⟨rfl, rfl⟩ | ⟨rfl, rfl⟩
  · exact ⟨(infoA 1).1.1, (infoA 1).1.2.1, (infoA 1).1.2.2.2.1, (infoA 1).1.2.2.2.2.1, by kernel_rfl⟩
  · exact ⟨(infoA 9).1.1, (infoA 9).1.2.1, (infoA 9).1.2.2.2.1, (infoA 9).1.2.2.2.2.1, by kernel_rfl⟩
/-- what an operation takes of the stack -/
theorem takes_on {w : World} {q : Nat} {op ar tk : Int} (hT : Tab w) (hop : op = 1 ∧ tk = 0 ∨ op = 9 ∧ tk = 1) : Calls Tryz.prog 33 #[.pointer (some ⟨q, 0, none⟩), .agg #[.int .i64 op, .int .i64 ar]] w fun e w' => e = .returned (.int .i64 tk) ∧ Below w.heap.size w w' := by
  obtain ⟨G, hG⟩ : ∃ G, w.heap.size = G := ⟨_, rfl⟩
  obtain ⟨w0, hw0⟩ : ∃ u, w.alloc (.cells #[.int .i64 op, .int .i64 ar] 36) = u := ⟨_, rfl⟩
  have b0 : Below w.heap.size w w0 := by rw [← hw0]; exact (Below.refl _ _).alloc (Nat.le_refl _) _
  have a0 : w0.heap[G]? = some (.cells #[.int .i64 op, .int .i64 ar] 36 (0, 0)) := by rw [← hw0, ← hG]; exact heap_alloc_new _ _
  have CI0 := info_any op w0 (hT.below b0)
  obtain ⟨s, a, c, d, he⟩ := info_op hop
  rw [he] at CI0
  simp only [infV] at CI0
  have CI := hide CI0
  clear CI0 he
  obtain ⟨x0, x1⟩ := two_cells a0
  rcases hop with ⟨rfl, rfl⟩ | ⟨rfl, rfl⟩
  all_goals
    go_enter Tryz.func33, Tryz.ntmps33
    go_upto_region 1 with fail
    try rw [hw0]
    go_wp2_with fail
    refine (unhide CI).mono ?_
    rintro e w1 ⟨rfl, b1⟩
    have HB := hide (b0.trans (b1.mono b0.size))
    clear b1 b0 a0 x0 x1 hw0 CI
    go_wp2_with fail
    go_ret
    exact ⟨rfl, (unhide HB).alloc (unhide HB).size _⟩
theorem weight_on {w : World} {q t : Nat} {op tk : Int} {k c1 : Nat} (hT : Tab w) (hop : op = 1 ∧ tk = 0 ∨ op = 9 ∧ tk = 1) : Calls Tryz.prog 15 #[.pointer (some ⟨q, 0, none⟩), .int .i64 op, .slice (some ⟨t, 0, none⟩) k c1] w fun e w' => e = .returned (.int .i64 0) ∧ Below w.heap.size w w' := by
  have CI0 := info_any op w hT
  obtain ⟨s, a, c, d, he⟩ := info_op hop
  rw [he] at CI0
  simp only [infV] at CI0
  have CI := hide CI0
  clear CI0 he
  go_enter Tryz.func15, Tryz.ntmps15
  go_wp2_with fail
  refine (unhide CI).mono ?_
  rintro e w1 ⟨rfl, b1⟩
  have HB := hide b1
  clear b1 CI
  go_wp2_with fail
  go_ret
  exact ⟨rfl, (unhide HB).alloc (unhide HB).size _⟩
/-- what an instruction takes: the stack as it is -/
theorem taken_on {w : World} {q r rc g t : Nat} {C F S L : Value} {n at0 op ar tk : Int} {z : List Value} {k : Nat} (hrc : 1 ≤ rc) (hk : (k : Int) = tk) (hT : Tab w) (hop : op = 1 ∧ tk = 0 ∨ op = 9 ∧ tk = 1)
    (hq : w.heap[q]? = some (.cells (rnC C F S (.slice (some ⟨r, 0, none⟩) 1 rc) g n) 62 (0, 0)))
    (hr : w.heap[r]? = some (.cells (.int .i64 0 :: .int .i64 at0 :: L :: .slice (some ⟨t, 0, none⟩) k 1 :: z).toArray 67 (0, 0))) : Calls Tryz.prog 13 #[.pointer (some ⟨q, 0, none⟩), .agg #[.int .i64 op, .int .i64 ar]] w fun e w' => e = .returned (.slice (some ⟨t, 0, none⟩) k 1) ∧ Below w.heap.size w w' := by
  obtain ⟨G, hG⟩ : ∃ G, w.heap.size = G := ⟨_, rfl⟩
  obtain ⟨w0, hw0⟩ : ∃ u, w.alloc (.cells #[.int .i64 op, .int .i64 ar] 36) = u := ⟨_, rfl⟩
  have b0 : Below w.heap.size w w0 := by rw [← hw0]; exact (Below.refl _ _).alloc (Nat.le_refl _) _
  have a0 : w0.heap[G]? = some (.cells #[.int .i64 op, .int .i64 ar] 36 (0, 0)) := by rw [← hw0, ← hG]; exact heap_alloc_new _ _
  have CTop := hide (top_on hrc ((b0.block q (lt_of_row hq)).trans hq))
  have hr0 := (b0.block r (lt_of_row hr)).trans hr
  have HT := hide (hT.below b0)
  clear hT hq hr
  go_enter Tryz.func13, Tryz.ntmps13
  go_upto_region 1 with fail
  try rw [hw0]
  go_wp2_with fail
  refine (unhide CTop).mono ?_
  rintro e w1 ⟨rfl, b1⟩
  have hr1 := (b1.block r (lt_of_row hr0)).trans hr0
  have a1 := (b1.block G (lt_of_row a0)).trans a0
  obtain ⟨r0, r1, r2, r3⟩ := four_cells hr1
  obtain ⟨x0, x1⟩ := two_cells a1
  have CT := hide (takes_on (q := q) (ar := ar) ((unhide HT).below b1) hop)
  have HB := hide (b0.trans (b1.mono b0.size))
  clear b1 b0 a0 a1 hw0 CTop hr0 hr1
  go_wp2_with fail
  refine (unhide CT).mono ?_
  rintro e w2 ⟨rfl, b2⟩
  have HB2 := hide ((unhide HB).trans (b2.mono (unhide HB).size))
  clear b2 CT r0 r1 r2 r3 x0 x1 HB
  rcases hop with ⟨rfl, rfl⟩ | ⟨rfl, rfl⟩
  · obtain rfl : k = 0 := by omega
    go_wp2_with fail
    go_ret
    exact ⟨rfl, unhide HB2⟩
  · obtain rfl : k = 1 := by omega
    go_wp2_with fail
    go_ret
    exact ⟨rfl, unhide HB2⟩
end Go.Proofs.YtmnbfcpkaglniaaGreatDoor

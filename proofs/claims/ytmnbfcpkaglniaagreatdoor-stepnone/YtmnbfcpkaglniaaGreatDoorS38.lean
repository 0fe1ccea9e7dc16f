/-
  Layer 15 (step): what ret does to a machine: effectOf, end, leave, follow; no conditions.
-/
import Derived.Test.YtmnbfcpkaglniaaGreatDoorS37
set_option linter.unusedVariables false
set_option linter.unusedSimpArgs false
namespace Go.Proofs.YtmnbfcpkaglniaaGreatDoor
open Go.RowKit
set_option linter.unusedVariables false
set_option linter.unusedSimpArgs false
/-- the cells of a machine that has returned -/
def enC (g : Nat) (n : Int) (x0 x1 : Int) (x2 : ByteArray) (al : Option Addr) (ll cl : Nat) (ak : Option Addr) (lk ck : Nat) (left : Int) : Array Value := #[.slice none 0 0, .slice none 0 0, .pointer none, .pointer (some ⟨g, 0, none⟩), .slice none 0 0, .int .i64 n, .int .i64 1, .int .i64 x0, .int .i64 x1, .string x2, .slice al ll cl, .slice ak lk ck, .int .i64 0, .int .i64 left]
theorem set_at {w : World} {q k : Nat} {v : Value} {cs cs2 : Array Value} {T : TypeId} (h : w.heap[q]? = some (.cells cs T (0, 0))) (hc : cs.setIfInBounds k v = cs2) : (w.setCell ⟨q, k, none⟩ v).heap[q]? = some (.cells cs2 T (0, 0)) := by
  rw [heap_setCell_same w q k cs T v h, hc]
theorem set14 {w : World} {q : Nat} {T : TypeId} {a0 a1 a2 a3 a4 a5 a6 a7 a8 a9 a10 a11 a12 a13 : Value} (b0 b1 b2 b3 b4 b5 b6 b7 b8 b9 b10 b11 b12 b13 : Value) (h : w.heap[q]? = some (.cells #[a0, a1, a2, a3, a4, a5, a6, a7, a8, a9, a10, a11, a12, a13] T (0, 0))) : ((((((((((((((w.setCell ⟨q, 0, none⟩ b0).setCell ⟨q, 1, none⟩ b1).setCell ⟨q, 2, none⟩ b2).setCell ⟨q, 3, none⟩ b3).setCell ⟨q, 4, none⟩ b4).setCell ⟨q, 5, none⟩ b5).setCell ⟨q, 6, none⟩ b6).setCell ⟨q, 7, none⟩ b7).setCell ⟨q, 8, none⟩ b8).setCell ⟨q, 9, none⟩ b9).setCell ⟨q, 10, none⟩ b10).setCell ⟨q, 11, none⟩ b11).setCell ⟨q, 12, none⟩ b12).setCell ⟨q, 13, none⟩ b13).heap[q]? = some (.cells #[b0, b1, b2, b3, b4, b5, b6, b7, b8, b9, b10, b11, b12, b13] T (0, 0)) ∧ Bes (fun k => k = q) w ((((((((((((((w.setCell ⟨q, 0, none⟩ b0).setCell ⟨q, 1, none⟩ b1).setCell ⟨q, 2, none⟩ b2).setCell ⟨q, 3, none⟩ b3).setCell ⟨q, 4, none⟩ b4).setCell ⟨q, 5, none⟩ b5).setCell ⟨q, 6, none⟩ b6).setCell ⟨q, 7, none⟩ b7).setCell ⟨q, 8, none⟩ b8).setCell ⟨q, 9, none⟩ b9).setCell ⟨q, 10, none⟩ b10).setCell ⟨q, 11, none⟩ b11).setCell ⟨q, 12, none⟩ b12).setCell ⟨q, 13, none⟩ b13) := by
  have s0 : Bes (fun k => k = q) w w := Bes.refl _ _
  have h1 := set_at (k := 0) (v := b0) (cs2 := #[b0, a1, a2, a3, a4, a5, a6, a7, a8, a9, a10, a11, a12, a13]) h rfl
  have s1 := s0.set (p := ⟨q, 0, none⟩) (Or.inl rfl) b0
  obtain ⟨w1, e1⟩ : ∃ u, w.setCell ⟨q, 0, none⟩ b0 = u := ⟨_, rfl⟩
  rw [e1] at h1 s1 ⊢
  have h2 := set_at (k := 1) (v := b1) (cs2 := #[b0, b1, a2, a3, a4, a5, a6, a7, a8, a9, a10, a11, a12, a13]) h1 rfl
  have s2 := s1.set (p := ⟨q, 1, none⟩) (Or.inl rfl) b1
  obtain ⟨w2, e2⟩ : ∃ u, w1.setCell ⟨q, 1, none⟩ b1 = u := ⟨_, rfl⟩
  rw [e2] at h2 s2 ⊢
  have h3 := set_at (k := 2) (v := b2) (cs2 := #[b0, b1, b2, a3, a4, a5, a6, a7, a8, a9, a10, a11, a12, a13]) h2 rfl
  have s3 := s2.set (p := ⟨q, 2, none⟩) (Or.inl rfl) b2
  obtain ⟨w3, e3⟩ : ∃ u, w2.setCell ⟨q, 2, none⟩ b2 = u := ⟨_, rfl⟩
  rw [e3] at h3 s3 ⊢
  have h4 := set_at (k := 3) (v := b3) (cs2 := #[b0, b1, b2, b3, a4, a5, a6, a7, a8, a9, a10, a11, a12, a13]) h3 rfl
  have s4 := s3.set (p := ⟨q, 3, none⟩) (Or.inl rfl) b3
  obtain ⟨w4, e4⟩ : ∃ u, w3.setCell ⟨q, 3, none⟩ b3 = u := ⟨_, rfl⟩
  rw [e4] at h4 s4 ⊢
  have h5 := set_at (k := 4) (v := b4) (cs2 := #[b0, b1, b2, b3, b4, a5, a6, a7, a8, a9, a10, a11, a12, a13]) h4 rfl
  have s5 := s4.set (p := ⟨q, 4, none⟩) (Or.inl rfl) b4
  obtain ⟨w5, e5⟩ : ∃ u, w4.setCell ⟨q, 4, none⟩ b4 = u := ⟨_, rfl⟩
  rw [e5] at h5 s5 ⊢
  have h6 := set_at (k := 5) (v := b5) (cs2 := #[b0, b1, b2, b3, b4, b5, a6, a7, a8, a9, a10, a11, a12, a13]) h5 rfl
  have s6 := s5.set (p := ⟨q, 5, none⟩) (Or.inl rfl) b5
  obtain ⟨w6, e6⟩ : ∃ u, w5.setCell ⟨q, 5, none⟩ b5 = u := ⟨_, rfl⟩
  rw [e6] at h6 s6 ⊢
  have h7 := set_at (k := 6) (v := b6) (cs2 := #[b0, b1, b2, b3, b4, b5, b6, a7, a8, a9, a10, a11, a12, a13]) h6 rfl
  have s7 := s6.set (p := ⟨q, 6, none⟩) (Or.inl rfl) b6
  obtain ⟨w7, e7⟩ : ∃ u, w6.setCell ⟨q, 6, none⟩ b6 = u := ⟨_, rfl⟩
  rw [e7] at h7 s7 ⊢
  have h8 := set_at (k := 7) (v := b7) (cs2 := #[b0, b1, b2, b3, b4, b5, b6, b7, a8, a9, a10, a11, a12, a13]) h7 rfl
  have s8 := s7.set (p := ⟨q, 7, none⟩) (Or.inl rfl) b7
  obtain ⟨w8, e8⟩ : ∃ u, w7.setCell ⟨q, 7, none⟩ b7 = u := ⟨_, rfl⟩
  rw [e8] at h8 s8 ⊢
  have h9 := set_at (k := 8) (v := b8) (cs2 := #[b0, b1, b2, b3, b4, b5, b6, b7, b8, a9, a10, a11, a12, a13]) h8 rfl
  have s9 := s8.set (p := ⟨q, 8, none⟩) (Or.inl rfl) b8
  obtain ⟨w9, e9⟩ : ∃ u, w8.setCell ⟨q, 8, none⟩ b8 = u := ⟨_, rfl⟩
  rw [e9] at h9 s9 ⊢
  have h10 := set_at (k := 9) (v := b9) (cs2 := #[b0, b1, b2, b3, b4, b5, b6, b7, b8, b9, a10, a11, a12, a13]) h9 rfl
  have s10 := s9.set (p := ⟨q, 9, none⟩) (Or.inl rfl) b9
  obtain ⟨w10, e10⟩ : ∃ u, w9.setCell ⟨q, 9, none⟩ b9 = u := ⟨_, rfl⟩
  rw [e10] at h10 s10 ⊢
  have h11 := set_at (k := 10) (v := b10) (cs2 := #[b0, b1, b2, b3, b4, b5, b6, b7, b8, b9, b10, a11, a12, a13]) h10 rfl
  have s11 := s10.set (p := ⟨q, 10, none⟩) (Or.inl rfl) b10
  obtain ⟨w11, e11⟩ : ∃ u, w10.setCell ⟨q, 10, none⟩ b10 = u := ⟨_, rfl⟩
  rw [e11] at h11 s11 ⊢
  have h12 := set_at (k := 11) (v := b11) (cs2 := #[b0, b1, b2, b3, b4, b5, b6, b7, b8, b9, b10, b11, a12, a13]) h11 rfl
  have s12 := s11.set (p := ⟨q, 11, none⟩) (Or.inl rfl) b11
  obtain ⟨w12, e12⟩ : ∃ u, w11.setCell ⟨q, 11, none⟩ b11 = u := ⟨_, rfl⟩
  rw [e12] at h12 s12 ⊢
  have h13 := set_at (k := 12) (v := b12) (cs2 := #[b0, b1, b2, b3, b4, b5, b6, b7, b8, b9, b10, b11, b12, a13]) h12 rfl
  have s13 := s12.set (p := ⟨q, 12, none⟩) (Or.inl rfl) b12
  obtain ⟨w13, e13⟩ : ∃ u, w12.setCell ⟨q, 12, none⟩ b12 = u := ⟨_, rfl⟩
  rw [e13] at h13 s13 ⊢
  have h14 := set_at (k := 13) (v := b13) (cs2 := #[b0, b1, b2, b3, b4, b5, b6, b7, b8, b9, b10, b11, b12, b13]) h13 rfl
  have s14 := s13.set (p := ⟨q, 13, none⟩) (Or.inl rfl) b13
  obtain ⟨w14, e14⟩ : ∃ u, w13.setCell ⟨q, 13, none⟩ b13 = u := ⟨_, rfl⟩
  rw [e14] at h14 s14 ⊢
  exact ⟨h14, s14⟩
set_option maxRecDepth 100000 in
set_option maxHeartbeats 8000000 in
theorem effect_ret {w : World} {q t : Nat} {x0 x1 : Int} {x2 : ByteArray} {al ak : Option Addr} {ll cl lk ck : Nat}
    (ht : w.heap[t]? = some (.cells #[.int .i64 x0, .int .i64 x1, .string x2, .slice al ll cl, .slice ak lk ck] 29 (0, 0))) : Calls Tryz.prog 20 #[.pointer (some ⟨q, 0, none⟩), .agg #[.int .i64 9, .int .i64 0], .slice (some ⟨t, 0, none⟩) 1 1] w fun e w' => e = .returned (.iface 115 (.agg #[.int .i64 x0, .int .i64 x1, .string x2, .slice al ll cl, .slice ak lk ck])) ∧ Below w.heap.size w w' := by
  obtain ⟨G, hG⟩ : ∃ G, w.heap.size = G := ⟨_, rfl⟩
  obtain ⟨w0, hw0⟩ : ∃ u, w.alloc (.cells #[.int .i64 9, .int .i64 0] 36) = u := ⟨_, rfl⟩
  have b0 : Below w.heap.size w w0 := by rw [← hw0]; exact (Below.refl _ _).alloc (Nat.le_refl _) _
  have a0 : w0.heap[G]? = some (.cells #[.int .i64 9, .int .i64 0] 36 (0, 0)) := by rw [← hw0, ← hG]; exact heap_alloc_new _ _
  obtain ⟨x0', x1'⟩ := two_cells a0
  obtain ⟨y0, y1, y2, y3, y4⟩ := five_cells (z := []) ((b0.block t (lt_of_row ht)).trans ht)
  have HB := hide b0
  clear ht a0 b0
  go_enter Tryz.func20, Tryz.ntmps20
  go_upto_region 1 with fail
  try rw [hw0]
  go_wp2_with fail
  go_ret
  exact ⟨rfl, unhide HB⟩
set_option maxRecDepth 100000 in
set_option maxHeartbeats 8000000 in
theorem end_ret {w : World} {q g : Nat} {C F S FR : Value} {n lim left : Int} {sp : Bool} {out : Option Addr} {x0 x1 : Int} {x2 : ByteArray} {al ak : Option Addr} {ll cl lk ck : Nat}
    (hq : w.heap[q]? = some (.cells (rnC C F S FR g n) 62 (0, 0))) (hg : Mt w g lim left sp out) : Calls Tryz.prog 17 #[.pointer (some ⟨q, 0, none⟩), .agg #[.int .i64 1, .int .i64 x0, .int .i64 x1, .string x2, .slice al ll cl, .slice ak lk ck, .int .i64 0, .int .i64 0]] w fun e w' => e = .returned (.tuple #[]) ∧ w'.heap[q]? = some (.cells (enC g n x0 x1 x2 al ll cl ak lk ck left) 62 (0, 0)) ∧ Bes (fun k => k = q) w w' := by
  obtain ⟨G, hG⟩ : ∃ G, w.heap.size = G := ⟨_, rfl⟩
  obtain ⟨w0, hw0⟩ : ∃ u, w.alloc (.cells #[.int .i64 1, .int .i64 x0, .int .i64 x1, .string x2, .slice al ll cl, .slice ak lk ck, .int .i64 0, .int .i64 0] 31) = u := ⟨_, rfl⟩
  have b0 : Below w.heap.size w w0 := by rw [← hw0]; exact (Below.refl _ _).alloc (Nat.le_refl _) _
  have a0 : w0.heap[G]? = some (.cells #[.int .i64 1, .int .i64 x0, .int .i64 x1, .string x2, .slice al ll cl, .slice ak lk ck, .int .i64 0, .int .i64 0] 31 (0, 0)) := by rw [← hw0, ← hG]; exact heap_alloc_new _ _
  have hq0 := (b0.block q (lt_of_row hq)).trans hq
  have CL := hide (left_any (hg.below b0))
  have hqG : q < G := by rw [← hG]; exact lt_of_row hq
  have B0 := hide b0
  obtain ⟨c0, c1, c2, c3, c4, c5⟩ := rn_cells hq0
  have f7 := frozen_of_row w0 G 7 _ _ a0
  have a7 : w0.cell? ⟨G, 7, none⟩ = some (.int .i64 0) := by rw [cell_of_row w0 _ 7 _ _ (0, 0) a0]; rfl
  have HA := hide (And.intro a0 hq0)
  clear hq hg b0 a0 hq0
  go_enter Tryz.func17, Tryz.ntmps17
  go_upto_region 1 with fail
  try rw [hw0]
  go_wp2_with fail
  refine (unhide CL).mono ?_
  rintro e w9 ⟨rfl, rfl⟩
  go_upto_region 2 with fail
  have a1 := heap_setCell_same w9 G 7 _ 31 (.int .i64 left) (unhide HA).1
  have hq1 := (heap_setCell_other w9 ⟨G, 7, none⟩ q (.int .i64 left) (Nat.ne_of_lt hqG)).trans (unhide HA).2
  have B1 := hide ((unhide B0).setCell (p := ⟨G, 7, none⟩) (Nat.le_of_eq hG) (.int .i64 left))
  obtain ⟨w1, hw1⟩ : ∃ u, w9.setCell ⟨G, 7, none⟩ (.int .i64 left) = u := ⟨_, rfl⟩
  rw [hw1] at a1 hq1 B1
  try rw [hw1]
  have HF : Hid (∀ u, Below w1.heap.size w1 u → u.cell? ⟨q, 0, none⟩ = some (C) ∧ u.cell? ⟨q, 1, none⟩ = some (F) ∧ u.cell? ⟨q, 2, none⟩ = some (S) ∧ u.cell? ⟨q, 3, none⟩ = some (.pointer (some ⟨g, 0, none⟩)) ∧ u.cell? ⟨q, 4, none⟩ = some (FR) ∧ u.cell? ⟨q, 5, none⟩ = some (.int .i64 n) ∧ u.cell? ⟨q, 6, none⟩ = some (.int .i64 0) ∧ u.cell? ⟨q, 7, none⟩ = some (.int .i64 0) ∧ u.cell? ⟨q, 8, none⟩ = some (.int .i64 0) ∧ u.cell? ⟨q, 9, none⟩ = some (.string ⟨#[]⟩) ∧ u.cell? ⟨q, 10, none⟩ = some (.slice none 0 0) ∧ u.cell? ⟨q, 11, none⟩ = some (.slice none 0 0) ∧ u.cell? ⟨q, 12, none⟩ = some (.int .i64 0) ∧ u.cell? ⟨q, 13, none⟩ = some (.int .i64 0) ∧ u.cell? ⟨G, 0, none⟩ = some (.int .i64 1) ∧ u.cell? ⟨G, 1, none⟩ = some (.int .i64 x0) ∧ u.cell? ⟨G, 2, none⟩ = some (.int .i64 x1) ∧ u.cell? ⟨G, 3, none⟩ = some (.string x2) ∧ u.cell? ⟨G, 4, none⟩ = some (.slice al ll cl) ∧ u.cell? ⟨G, 5, none⟩ = some (.slice ak lk ck) ∧ u.cell? ⟨G, 6, none⟩ = some (.int .i64 0) ∧ u.cell? ⟨G, 7, none⟩ = some (.int .i64 left)) := hide (fun u hu => by
    have h1 := (hu.block q (lt_of_row hq1)).trans hq1
    have h2 := (hu.block G (lt_of_row a1)).trans a1
    refine ⟨?_, ?_, ?_, ?_, ?_, ?_, ?_, ?_, ?_, ?_, ?_, ?_, ?_, ?_, ?_, ?_, ?_, ?_, ?_, ?_, ?_, ?_⟩
    all_goals first | (rw [cell_of_row u q _ _ _ (0, 0) h1]; rfl) | (rw [cell_of_row u G _ _ _ (0, 0) h2]; rfl))
  clear hw1 c0 c1 c2 c3 c4 c5 f7 a7 HA CL hw0 B0
  have HS0 : Hid (Below w1.heap.size w1 w1.drew) := hide ((Below.refl _ _).drew)
  refine till_begin (S := fun w' => Below w1.heap.size w1 w') 12 (by kernel_rfl) ?_
  obtain ⟨W0, hW0⟩ : ∃ W0, w1.drew = W0 := ⟨_, rfl⟩
  try rw [hW0]
  rw [hW0] at HS0
  clear hW0
  refine till_take 0 (v := .pointer (some ⟨q, 0, none⟩)) (some 10) rfl rfl rfl (by kernel_rfl) (by kernel_rfl) (by kernel_rfl) (by kernel_rfl) (fun _ _ _ h => h) (Or.inl ⟨by rfl, fun u hu => by obtain ⟨m0, m1, m2, m3, m4, m5, m6, m7, m8, m9, m10, m11, m12, m13, o0, o1, o2, o3, o4, o5, o6, o7⟩ := unhide HF u hu; go_simp⟩) (unhide HS0) ?_
  try simp only [Act.put, List.setIfInBounds_toArray, List.set_cons_zero, List.set_cons_succ]
  refine till_take 1 (v := .pointer (some ⟨q, 0, none⟩)) (some 11) rfl rfl rfl (by kernel_rfl) (by kernel_rfl) (by kernel_rfl) (by kernel_rfl) (fun _ _ _ h => h) (Or.inl ⟨by rfl, fun u hu => by obtain ⟨m0, m1, m2, m3, m4, m5, m6, m7, m8, m9, m10, m11, m12, m13, o0, o1, o2, o3, o4, o5, o6, o7⟩ := unhide HF u hu; go_simp⟩) (unhide HS0) ?_
  try simp only [Act.put, List.setIfInBounds_toArray, List.set_cons_zero, List.set_cons_succ]
  refine till_take 2 (v := .pointer (some ⟨q, 0, none⟩)) (some 12) rfl rfl rfl (by kernel_rfl) (by kernel_rfl) (by kernel_rfl) (by kernel_rfl) (fun _ _ _ h => h) (Or.inl ⟨by rfl, fun u hu => by obtain ⟨m0, m1, m2, m3, m4, m5, m6, m7, m8, m9, m10, m11, m12, m13, o0, o1, o2, o3, o4, o5, o6, o7⟩ := unhide HF u hu; go_simp⟩) (unhide HS0) ?_
  try simp only [Act.put, List.setIfInBounds_toArray, List.set_cons_zero, List.set_cons_succ]
  refine till_take 3 (v := .pointer (some ⟨q, 3, none⟩)) (some 13) rfl rfl rfl (by kernel_rfl) (by kernel_rfl) (by kernel_rfl) (by kernel_rfl) (fun _ _ _ h => h) (Or.inl ⟨by rfl, fun u hu => by obtain ⟨m0, m1, m2, m3, m4, m5, m6, m7, m8, m9, m10, m11, m12, m13, o0, o1, o2, o3, o4, o5, o6, o7⟩ := unhide HF u hu; go_simp⟩) (unhide HS0) ?_
  try simp only [Act.put, List.setIfInBounds_toArray, List.set_cons_zero, List.set_cons_succ]
  refine till_take 4 (v := .pointer (some ⟨g, 0, none⟩)) (some 14) rfl rfl rfl (by kernel_rfl) (by kernel_rfl) (by kernel_rfl) (by kernel_rfl) (fun _ _ _ h => h) (Or.inl ⟨by rfl, fun u hu => by obtain ⟨m0, m1, m2, m3, m4, m5, m6, m7, m8, m9, m10, m11, m12, m13, o0, o1, o2, o3, o4, o5, o6, o7⟩ := unhide HF u hu; go_simp⟩) (unhide HS0) ?_
  try simp only [Act.put, List.setIfInBounds_toArray, List.set_cons_zero, List.set_cons_succ]
  refine till_take 5 (v := .pointer (some ⟨q, 0, none⟩)) (some 15) rfl rfl rfl (by kernel_rfl) (by kernel_rfl) (by kernel_rfl) (by kernel_rfl) (fun _ _ _ h => h) (Or.inl ⟨by rfl, fun u hu => by obtain ⟨m0, m1, m2, m3, m4, m5, m6, m7, m8, m9, m10, m11, m12, m13, o0, o1, o2, o3, o4, o5, o6, o7⟩ := unhide HF u hu; go_simp⟩) (unhide HS0) ?_
  try simp only [Act.put, List.setIfInBounds_toArray, List.set_cons_zero, List.set_cons_succ]
  refine till_take 6 (v := .pointer (some ⟨q, 0, none⟩)) (some 16) rfl rfl rfl (by kernel_rfl) (by kernel_rfl) (by kernel_rfl) (by kernel_rfl) (fun _ _ _ h => h) (Or.inl ⟨by rfl, fun u hu => by obtain ⟨m0, m1, m2, m3, m4, m5, m6, m7, m8, m9, m10, m11, m12, m13, o0, o1, o2, o3, o4, o5, o6, o7⟩ := unhide HF u hu; go_simp⟩) (unhide HS0) ?_
  try simp only [Act.put, List.setIfInBounds_toArray, List.set_cons_zero, List.set_cons_succ]
  refine till_take 7 (v := .pointer (some ⟨q, 5, none⟩)) (some 17) rfl rfl rfl (by kernel_rfl) (by kernel_rfl) (by kernel_rfl) (by kernel_rfl) (fun _ _ _ h => h) (Or.inl ⟨by rfl, fun u hu => by obtain ⟨m0, m1, m2, m3, m4, m5, m6, m7, m8, m9, m10, m11, m12, m13, o0, o1, o2, o3, o4, o5, o6, o7⟩ := unhide HF u hu; go_simp⟩) (unhide HS0) ?_
  try simp only [Act.put, List.setIfInBounds_toArray, List.set_cons_zero, List.set_cons_succ]
  refine till_take 8 (v := .int .i64 n) (some 18) rfl rfl rfl (by kernel_rfl) (by kernel_rfl) (by kernel_rfl) (by kernel_rfl) (fun _ _ _ h => h) (Or.inl ⟨by rfl, fun u hu => by obtain ⟨m0, m1, m2, m3, m4, m5, m6, m7, m8, m9, m10, m11, m12, m13, o0, o1, o2, o3, o4, o5, o6, o7⟩ := unhide HF u hu; go_simp⟩) (unhide HS0) ?_
  try simp only [Act.put, List.setIfInBounds_toArray, List.set_cons_zero, List.set_cons_succ]
  refine till_take 9 (v := .agg #[.int .i64 1, .int .i64 x0, .int .i64 x1, .string x2, .slice al ll cl, .slice ak lk ck, .int .i64 0, .int .i64 left]) (some 19) rfl rfl rfl (by kernel_rfl) (by kernel_rfl) (by kernel_rfl) (by kernel_rfl) (fun _ _ _ h => h) (Or.inl ⟨by rfl, fun u hu => by obtain ⟨m0, m1, m2, m3, m4, m5, m6, m7, m8, m9, m10, m11, m12, m13, o0, o1, o2, o3, o4, o5, o6, o7⟩ := unhide HF u hu; go_simp⟩) (unhide HS0) ?_
  try simp only [Act.put, List.setIfInBounds_toArray, List.set_cons_zero, List.set_cons_succ]
  refine till_take 10 (v := .agg (enC g n x0 x1 x2 al ll cl ak lk ck left)) (some 20) rfl rfl rfl (by kernel_rfl) (by kernel_rfl) (by kernel_rfl) (by kernel_rfl) (fun _ _ _ h => h) (Or.inl ⟨by rfl, fun u hu => by obtain ⟨m0, m1, m2, m3, m4, m5, m6, m7, m8, m9, m10, m11, m12, m13, o0, o1, o2, o3, o4, o5, o6, o7⟩ := unhide HF u hu; unfold enC; go_simp⟩) (unhide HS0) ?_
  try simp only [Act.put, List.setIfInBounds_toArray, List.set_cons_zero, List.set_cons_succ]
  refine till_take 11 (v := .pointer (some ⟨q, 0, none⟩)) (some 21) rfl rfl rfl (by kernel_rfl) (by kernel_rfl) (by kernel_rfl) (by kernel_rfl) (fun _ _ _ h => h) (Or.inl ⟨by rfl, fun u hu => by obtain ⟨m0, m1, m2, m3, m4, m5, m6, m7, m8, m9, m10, m11, m12, m13, o0, o1, o2, o3, o4, o5, o6, o7⟩ := unhide HF u hu; go_simp⟩) (unhide HS0) ?_
  try simp only [Act.put, List.setIfInBounds_toArray, List.set_cons_zero, List.set_cons_succ]
  have hq2 := ((unhide HS0).block q (lt_of_row hq1)).trans hq1
  obtain ⟨m0, m1, m2, m3, m4, m5, m6, m7, m8, m9, m10, m11, m12, m13, -⟩ := unhide HF W0 (unhide HS0)
  have y0 := frozen_of_row W0 q 0 _ _ hq2
  have y1 := frozen_of_row W0 q 1 _ _ hq2
  have y2 := frozen_of_row W0 q 2 _ _ hq2
  have y3 := frozen_of_row W0 q 3 _ _ hq2
  have y4 := frozen_of_row W0 q 4 _ _ hq2
  have y5 := frozen_of_row W0 q 5 _ _ hq2
  have y6 := frozen_of_row W0 q 6 _ _ hq2
  have y7 := frozen_of_row W0 q 7 _ _ hq2
  have y8 := frozen_of_row W0 q 8 _ _ hq2
  have y9 := frozen_of_row W0 q 9 _ _ hq2
  have y10 := frozen_of_row W0 q 10 _ _ hq2
  have y11 := frozen_of_row W0 q 11 _ _ hq2
  have y12 := frozen_of_row W0 q 12 _ _ hq2
  have y13 := frozen_of_row W0 q 13 _ _ hq2
  refine till_one 12 (by kernel_rfl) rfl (fun K hK => ?_)
  unfold enC
  go_simp
  have hq3 : W0.heap[q]? = some (.cells #[C, F, S, .pointer (some ⟨g, 0, none⟩), FR, .int .i64 n, .int .i64 0, .int .i64 0, .int .i64 0, .string ⟨#[]⟩, .slice none 0 0, .slice none 0 0, .int .i64 0, .int .i64 0] 62 (0, 0)) := hq2
  have h14 := set14 (.slice none 0 0) (.slice none 0 0) (.pointer none) (.pointer (some ⟨g, 0, none⟩)) (.slice none 0 0) (.int .i64 n) (.int .i64 1) (.int .i64 x0) (.int .i64 x1) (.string x2) (.slice al ll cl) (.slice ak lk ck) (.int .i64 0) (.int .i64 left) hq3
  obtain ⟨W1, hW1⟩ : ∃ u, ((((((((((((((W0.setCell ⟨q, 0, none⟩ (.slice none 0 0)).setCell ⟨q, 1, none⟩ (.slice none 0 0)).setCell ⟨q, 2, none⟩ (.pointer none)).setCell ⟨q, 3, none⟩ (.pointer (some ⟨g, 0, none⟩))).setCell ⟨q, 4, none⟩ (.slice none 0 0)).setCell ⟨q, 5, none⟩ (.int .i64 n)).setCell ⟨q, 6, none⟩ (.int .i64 1)).setCell ⟨q, 7, none⟩ (.int .i64 x0)).setCell ⟨q, 8, none⟩ (.int .i64 x1)).setCell ⟨q, 9, none⟩ (.string x2)).setCell ⟨q, 10, none⟩ (.slice al ll cl)).setCell ⟨q, 11, none⟩ (.slice ak lk ck)).setCell ⟨q, 12, none⟩ (.int .i64 0)).setCell ⟨q, 13, none⟩ (.int .i64 left)) = u := ⟨_, rfl⟩
  rw [hW1] at h14 ⊢
  have HE : Hid (W1.heap[q]? = some (.cells (enC g n x0 x1 x2 al ll cl ak lk ck left) 62 (0, 0)) ∧ Bes (fun k => k = q) w W1) := hide ⟨h14.1, (Bes.of_below (unhide B1)).trans ((Bes.of_below (unhide HS0)).trans h14.2)⟩
  clear h14 hq3 hW1 m0 m1 m2 m3 m4 m5 m6 m7 m8 m9 m10 m11 m12 m13 y0 y1 y2 y3 y4 y5 y6 y7 y8 y9 y10 y11 y12 y13
  refine hK _ _ (Or.inl rfl) ?_
  clear hK K
  try simp only [Act.put, List.setIfInBounds_toArray, List.set_cons_zero, List.set_cons_succ]
  refine till_done (by kernel_rfl) ?_ _
  go_wp2_with fail
  go_end0
  exact ⟨rfl, unhide HE⟩
set_option maxRecDepth 100000 in
set_option maxHeartbeats 8000000 in
theorem leave_last {w : World} {q g r rc : Nat} {C F S : Value} {n lim left : Int} {sp : Bool} {out : Option Addr} {x0 x1 : Int} {x2 : ByteArray} {al ak : Option Addr} {ll cl lk ck : Nat}
    (hq : w.heap[q]? = some (.cells (rnC C F S (.slice (some ⟨r, 0, none⟩) 1 rc) g n) 62 (0, 0))) (hg : Mt w g lim left sp out) : Calls Tryz.prog 36 #[.pointer (some ⟨q, 0, none⟩), .agg #[.int .i64 x0, .int .i64 x1, .string x2, .slice al ll cl, .slice ak lk ck]] w fun e w' => e = .returned (.tuple #[]) ∧ w'.heap[q]? = some (.cells (enC g n x0 x1 x2 al ll cl ak lk ck left) 62 (0, 0)) ∧ Bes (fun k => k = q) w w' := by
  obtain ⟨G, hG⟩ : ∃ G, w.heap.size = G := ⟨_, rfl⟩
  obtain ⟨w0, hw0⟩ : ∃ u, w.alloc (.cells #[.int .i64 x0, .int .i64 x1, .string x2, .slice al ll cl, .slice ak lk ck] 29) = u := ⟨_, rfl⟩
  have b0 : Below w.heap.size w w0 := by rw [← hw0]; exact (Below.refl _ _).alloc (Nat.le_refl _) _
  have a0 : w0.heap[G]? = some (.cells #[.int .i64 x0, .int .i64 x1, .string x2, .slice al ll cl, .slice ak lk ck] 29 (0, 0)) := by rw [← hw0, ← hG]; exact heap_alloc_new _ _
  have hq0 := (b0.block q (lt_of_row hq)).trans hq
  have CE := hide (end_ret (x0 := x0) (x1 := x1) (x2 := x2) (al := al) (ak := ak) (ll := ll) (cl := cl) (lk := lk) (ck := ck) hq0 (hg.below b0))
  obtain ⟨c0, c1, c2, c3, c4, c5⟩ := rn_cells hq0
  obtain ⟨y0, y1, y2, y3, y4⟩ := five_cells (z := []) a0
  have B0 := hide b0
  clear hq hg b0 a0 hq0
  go_enter Tryz.func36, Tryz.ntmps36
  go_upto_region 1 with fail
  try rw [hw0]
  go_wp2_with fail
  refine (unhide CE).mono ?_
  rintro e w1 ⟨rfl, h1, h2⟩
  have HE := hide (And.intro h1 ((Bes.of_below (unhide B0)).trans h2))
  clear h1 h2 CE B0 c0 c1 c2 c3 c4 c5 y0 y1 y2 y3 y4 hw0
  go_wp2_with fail
  refine bodyPost_ret (results_none rfl _ _ _) rfl ?_
  exact ⟨rfl, unhide HE⟩
set_option maxRecDepth 100000 in
set_option maxHeartbeats 8000000 in
theorem follow_leaves {w : World} {q g r rc : Nat} {C F S : Value} {n lim left : Int} {sp : Bool} {out : Option Addr} {x0 x1 : Int} {x2 : ByteArray} {al ak : Option Addr} {ll cl lk ck : Nat} (hrc : 1 ≤ rc)
    (hq : w.heap[q]? = some (.cells (rnC C F S (.slice (some ⟨r, 0, none⟩) 1 rc) g n) 62 (0, 0))) (hg : Mt w g lim left sp out) : Calls Tryz.prog 19 #[.pointer (some ⟨q, 0, none⟩), .iface 115 (.agg #[.int .i64 x0, .int .i64 x1, .string x2, .slice al ll cl, .slice ak lk ck])] w fun e w' => e = .returned (.tuple #[]) ∧ w'.heap[q]? = some (.cells (enC g n x0 x1 x2 al ll cl ak lk ck left) 62 (0, 0)) ∧ Bes (fun k => k = q) w w' := by
  have CTop := hide (top_on hrc hq)
  have HQ := hide (And.intro hq hg)
  clear hq hg
  go_enter Tryz.func19, Tryz.ntmps19
  go_wp2_with fail
  refine (unhide CTop).mono ?_
  rintro e w0 ⟨rfl, b0⟩
  have hq0 := (b0.block q (lt_of_row (unhide HQ).1)).trans (unhide HQ).1
  have hg0 := (unhide HQ).2.below b0
  obtain ⟨Q, hQ⟩ : ∃ Q, w0.heap.size = Q := ⟨_, rfl⟩
  obtain ⟨w1, hw1⟩ : ∃ u, w0.alloc (.cells #[.int .i64 x0, .int .i64 x1, .string x2, .slice al ll cl, .slice ak lk ck] 115) = u := ⟨_, rfl⟩
  have q1 : w1.heap[Q]? = some (.cells #[.int .i64 x0, .int .i64 x1, .string x2, .slice al ll cl, .slice ak lk ck] 115 (0, 0)) := by rw [← hw1, ← hQ]; exact heap_alloc_new _ _
  have b1 : Below w0.heap.size w0 w1 := by rw [← hw1]; exact (Below.refl _ _).alloc (Nat.le_refl _) _
  have CE := hide (leave_last (x0 := x0) (x1 := x1) (x2 := x2) (al := al) (ak := ak) (ll := ll) (cl := cl) (lk := lk) (ck := ck) ((b1.block q (lt_of_row hq0)).trans hq0) (hg0.below b1))
  obtain ⟨y0, y1, y2, y3, y4⟩ := five_cells (z := []) q1
  have B1 := hide (b0.trans (b1.mono b0.size))
  have h1 := as_no1
  have h2 := as_no2
  have h3 := as_no3
  have h4 := as_no4
  have h5 := as_leaves
  clear b0 b1 hq0 hg0 q1 HQ CTop
  go_upto_region 16 with fail
  try rw [hw1]
  clear h1 h2 h3 h4 h5 hw1
  go_wp2_with fail
  refine (unhide CE).mono ?_
  rintro e w2 ⟨rfl, h1, h2⟩
  have HE := hide (And.intro h1 ((Bes.of_below (unhide B1)).trans h2))
  clear h1 h2 CE B1 y0 y1 y2 y3 y4
  go_wp2_with fail
  go_end0
  exact ⟨rfl, unhide HE⟩
end Go.Proofs.YtmnbfcpkaglniaaGreatDoor

/-
  Layer 15 (step): View of the example's machine, once it has returned; no conditions.
-/
import Derived.Test.YtmnbfcpkaglniaaGreatDoorS46
set_option linter.unusedVariables false
set_option linter.unusedSimpArgs false
namespace Go.Proofs.YtmnbfcpkaglniaaGreatDoor
open Go.RowKit
set_option linter.unusedVariables false
set_option linter.unusedSimpArgs false
theorem set12 {w : World} {q : Nat} {T : TypeId} {a0 a1 a2 a3 a4 a5 a6 a7 a8 a9 a10 a11 : Value} (b0 b1 b2 b3 b4 b5 b6 b7 b8 b9 b10 b11 : Value) (h : w.heap[q]? = some (.cells #[a0, a1, a2, a3, a4, a5, a6, a7, a8, a9, a10, a11] T (0, 0))) : ((((((((((((w.setCell ⟨q, 0, none⟩ b0).setCell ⟨q, 1, none⟩ b1).setCell ⟨q, 2, none⟩ b2).setCell ⟨q, 3, none⟩ b3).setCell ⟨q, 4, none⟩ b4).setCell ⟨q, 5, none⟩ b5).setCell ⟨q, 6, none⟩ b6).setCell ⟨q, 7, none⟩ b7).setCell ⟨q, 8, none⟩ b8).setCell ⟨q, 9, none⟩ b9).setCell ⟨q, 10, none⟩ b10).setCell ⟨q, 11, none⟩ b11).heap[q]? = some (.cells #[b0, b1, b2, b3, b4, b5, b6, b7, b8, b9, b10, b11] T (0, 0)) ∧ Bes (fun k => k = q) w ((((((((((((w.setCell ⟨q, 0, none⟩ b0).setCell ⟨q, 1, none⟩ b1).setCell ⟨q, 2, none⟩ b2).setCell ⟨q, 3, none⟩ b3).setCell ⟨q, 4, none⟩ b4).setCell ⟨q, 5, none⟩ b5).setCell ⟨q, 6, none⟩ b6).setCell ⟨q, 7, none⟩ b7).setCell ⟨q, 8, none⟩ b8).setCell ⟨q, 9, none⟩ b9).setCell ⟨q, 10, none⟩ b10).setCell ⟨q, 11, none⟩ b11) := by
  have s0 : Bes (fun k => k = q) w w := Bes.refl _ _
  have h1 := set_at (k := 0) (v := b0) (cs2 := #[b0, a1, a2, a3, a4, a5, a6, a7, a8, a9, a10, a11]) h rfl
  have s1 := s0.set (p := ⟨q, 0, none⟩) (Or.inl rfl) b0
  obtain ⟨w1, e1⟩ : ∃ u, w.setCell ⟨q, 0, none⟩ b0 = u := ⟨_, rfl⟩
  rw [e1] at h1 s1 ⊢
  have h2 := set_at (k := 1) (v := b1) (cs2 := #[b0, b1, a2, a3, a4, a5, a6, a7, a8, a9, a10, a11]) h1 rfl
  have s2 := s1.set (p := ⟨q, 1, none⟩) (Or.inl rfl) b1
  obtain ⟨w2, e2⟩ : ∃ u, w1.setCell ⟨q, 1, none⟩ b1 = u := ⟨_, rfl⟩
  rw [e2] at h2 s2 ⊢
  have h3 := set_at (k := 2) (v := b2) (cs2 := #[b0, b1, b2, a3, a4, a5, a6, a7, a8, a9, a10, a11]) h2 rfl
  have s3 := s2.set (p := ⟨q, 2, none⟩) (Or.inl rfl) b2
  obtain ⟨w3, e3⟩ : ∃ u, w2.setCell ⟨q, 2, none⟩ b2 = u := ⟨_, rfl⟩
  rw [e3] at h3 s3 ⊢
  have h4 := set_at (k := 3) (v := b3) (cs2 := #[b0, b1, b2, b3, a4, a5, a6, a7, a8, a9, a10, a11]) h3 rfl
  have s4 := s3.set (p := ⟨q, 3, none⟩) (Or.inl rfl) b3
  obtain ⟨w4, e4⟩ : ∃ u, w3.setCell ⟨q, 3, none⟩ b3 = u := ⟨_, rfl⟩
  rw [e4] at h4 s4 ⊢
  have h5 := set_at (k := 4) (v := b4) (cs2 := #[b0, b1, b2, b3, b4, a5, a6, a7, a8, a9, a10, a11]) h4 rfl
  have s5 := s4.set (p := ⟨q, 4, none⟩) (Or.inl rfl) b4
  obtain ⟨w5, e5⟩ : ∃ u, w4.setCell ⟨q, 4, none⟩ b4 = u := ⟨_, rfl⟩
  rw [e5] at h5 s5 ⊢
  have h6 := set_at (k := 5) (v := b5) (cs2 := #[b0, b1, b2, b3, b4, b5, a6, a7, a8, a9, a10, a11]) h5 rfl
  have s6 := s5.set (p := ⟨q, 5, none⟩) (Or.inl rfl) b5
  obtain ⟨w6, e6⟩ : ∃ u, w5.setCell ⟨q, 5, none⟩ b5 = u := ⟨_, rfl⟩
  rw [e6] at h6 s6 ⊢
  have h7 := set_at (k := 6) (v := b6) (cs2 := #[b0, b1, b2, b3, b4, b5, b6, a7, a8, a9, a10, a11]) h6 rfl
  have s7 := s6.set (p := ⟨q, 6, none⟩) (Or.inl rfl) b6
  obtain ⟨w7, e7⟩ : ∃ u, w6.setCell ⟨q, 6, none⟩ b6 = u := ⟨_, rfl⟩
  rw [e7] at h7 s7 ⊢
  have h8 := set_at (k := 7) (v := b7) (cs2 := #[b0, b1, b2, b3, b4, b5, b6, b7, a8, a9, a10, a11]) h7 rfl
  have s8 := s7.set (p := ⟨q, 7, none⟩) (Or.inl rfl) b7
  obtain ⟨w8, e8⟩ : ∃ u, w7.setCell ⟨q, 7, none⟩ b7 = u := ⟨_, rfl⟩
  rw [e8] at h8 s8 ⊢
  have h9 := set_at (k := 8) (v := b8) (cs2 := #[b0, b1, b2, b3, b4, b5, b6, b7, b8, a9, a10, a11]) h8 rfl
  have s9 := s8.set (p := ⟨q, 8, none⟩) (Or.inl rfl) b8
  obtain ⟨w9, e9⟩ : ∃ u, w8.setCell ⟨q, 8, none⟩ b8 = u := ⟨_, rfl⟩
  rw [e9] at h9 s9 ⊢
  have h10 := set_at (k := 9) (v := b9) (cs2 := #[b0, b1, b2, b3, b4, b5, b6, b7, b8, b9, a10, a11]) h9 rfl
  have s10 := s9.set (p := ⟨q, 9, none⟩) (Or.inl rfl) b9
  obtain ⟨w10, e10⟩ : ∃ u, w9.setCell ⟨q, 9, none⟩ b9 = u := ⟨_, rfl⟩
  rw [e10] at h10 s10 ⊢
  have h11 := set_at (k := 10) (v := b10) (cs2 := #[b0, b1, b2, b3, b4, b5, b6, b7, b8, b9, b10, a11]) h10 rfl
  have s11 := s10.set (p := ⟨q, 10, none⟩) (Or.inl rfl) b10
  obtain ⟨w11, e11⟩ : ∃ u, w10.setCell ⟨q, 10, none⟩ b10 = u := ⟨_, rfl⟩
  rw [e11] at h11 s11 ⊢
  have h12 := set_at (k := 11) (v := b11) (cs2 := #[b0, b1, b2, b3, b4, b5, b6, b7, b8, b9, b10, b11]) h11 rfl
  have s12 := s11.set (p := ⟨q, 11, none⟩) (Or.inl rfl) b11
  obtain ⟨w12, e12⟩ : ∃ u, w11.setCell ⟨q, 11, none⟩ b11 = u := ⟨_, rfl⟩
  rw [e12] at h12 s12 ⊢
  exact ⟨h12, s12⟩
theorem eight_cells {w : World} {O : Nat} {a b c d e f g h : Value} {T : TypeId} (hh : w.heap[O]? = some (.cells #[a, b, c, d, e, f, g, h] T (0, 0))) :
    w.cell? ⟨O, 0, none⟩ = some a ∧ w.cell? ⟨O, 1, none⟩ = some b ∧ w.cell? ⟨O, 2, none⟩ = some c ∧ w.cell? ⟨O, 3, none⟩ = some d ∧ w.cell? ⟨O, 4, none⟩ = some e ∧ w.cell? ⟨O, 5, none⟩ = some f ∧ w.cell? ⟨O, 6, none⟩ = some g ∧ w.cell? ⟨O, 7, none⟩ = some h := by
  refine ⟨?_, ?_, ?_, ?_, ?_, ?_, ?_, ?_⟩
  all_goals (rw [cell_of_row w O _ _ _ (0, 0) hh]; rfl)
theorem set5_1 {w : World} {q : Nat} {T : TypeId} {a0 a1 a2 a3 a4 a5 a6 a7 : Value} (b1 b2 b3 b4 b5 : Value) (h : w.heap[q]? = some (.cells #[a0, a1, a2, a3, a4, a5, a6, a7] T (0, 0))) : (((((w.setCell ⟨q, 1, none⟩ b1).setCell ⟨q, 2, none⟩ b2).setCell ⟨q, 3, none⟩ b3).setCell ⟨q, 4, none⟩ b4).setCell ⟨q, 5, none⟩ b5).heap[q]? = some (.cells #[a0, b1, b2, b3, b4, b5, a6, a7] T (0, 0)) ∧ Bes (fun k => k = q) w (((((w.setCell ⟨q, 1, none⟩ b1).setCell ⟨q, 2, none⟩ b2).setCell ⟨q, 3, none⟩ b3).setCell ⟨q, 4, none⟩ b4).setCell ⟨q, 5, none⟩ b5) := by
  have h1 := set_at (k := 1) (v := b1) (cs2 := #[a0, b1, a2, a3, a4, a5, a6, a7]) h rfl
  have h2 := set_at (k := 2) (v := b2) (cs2 := #[a0, b1, b2, a3, a4, a5, a6, a7]) h1 rfl
  have h3 := set_at (k := 3) (v := b3) (cs2 := #[a0, b1, b2, b3, a4, a5, a6, a7]) h2 rfl
  have h4 := set_at (k := 4) (v := b4) (cs2 := #[a0, b1, b2, b3, b4, a5, a6, a7]) h3 rfl
  have h5 := set_at (k := 5) (v := b5) (cs2 := #[a0, b1, b2, b3, b4, b5, a6, a7]) h4 rfl
  exact ⟨h5, ((((((Bes.refl (fun k => k = q) w).set (p := ⟨q, 1, none⟩) (Or.inl rfl) _).set (p := ⟨q, 2, none⟩) (Or.inl rfl) _).set (p := ⟨q, 3, none⟩) (Or.inl rfl) _).set (p := ⟨q, 4, none⟩) (Or.inl rfl) _).set (p := ⟨q, 5, none⟩) (Or.inl rfl) _)⟩
theorem size_out : (Tryz.prog.info? 31).map (·.size) = some 8 := by kernel_rfl
set_option maxRecDepth 100000 in
set_option maxHeartbeats 8000000 in
theorem view_shown {w : World} {q g : Nat} {n lim left : Int} {sp : Bool} {out al ak : Option Addr} {cl ck : Nat} (hem : Em al cl ak ck) (hq : w.heap[q]? = some (.cells (enC g n 2 2 ⟨#[]⟩ al 0 cl ak 0 ck left) 62 (0, 0))) (hg : Mt w g lim left sp out) : Calls Tryz.prog 7 #[.pointer (some ⟨q, 0, none⟩)] w fun e w' => ∃ am cm an cn, e = .returned (.agg #[.slice none 0 0, .int .i64 left, .int .i64 n, .bool true, .int .i64 1, .int .i64 2, .int .i64 2, .string ⟨#[]⟩, .slice am 0 cm, .slice an 0 cn, .int .i64 0, .int .i64 left]) ∧ Below w.heap.size w w' := by
  obtain ⟨V, hVe⟩ : ∃ V, w.heap.size = V := ⟨_, rfl⟩
  go_enter Tryz.func7, Tryz.ntmps7
  go_upto_region 3 with fail
  obtain ⟨w0, hw0⟩ : ∃ u, w.alloc (.cells #[.slice none 0 0, .int .i64 0, .int .i64 0, .bool false, .int .i64 0, .int .i64 0, .int .i64 0, .string ⟨#[]⟩, .slice none 0 0, .slice none 0 0, .int .i64 0, .int .i64 0] 33) = u := ⟨_, rfl⟩
  have b0 : Below w.heap.size w w0 := by rw [← hw0]; exact (Below.refl _ _).alloc (Nat.le_refl _) _
  have v0 : w0.heap[V]? = some (.cells #[.slice none 0 0, .int .i64 0, .int .i64 0, .bool false, .int .i64 0, .int .i64 0, .int .i64 0, .string ⟨#[]⟩, .slice none 0 0, .slice none 0 0, .int .i64 0, .int .i64 0] 33 (0, 0)) := by rw [← hw0, ← hVe]; exact heap_alloc_new _ _
  try rw [hw0]
  try rw [hVe]
  have hq0 := (b0.block q (lt_of_row hq)).trans hq
  have hg0 := hg.below b0
  have QC : Hid (∀ (u : World), u.heap[q]? = some (.cells (enC g n 2 2 ⟨#[]⟩ al 0 cl ak 0 ck left) 62 (0, 0)) → u.cell? ⟨q, 0, none⟩ = some (.slice none 0 0) ∧ u.cell? ⟨q, 1, none⟩ = some (.slice none 0 0) ∧ u.cell? ⟨q, 2, none⟩ = some (.pointer none) ∧ u.cell? ⟨q, 3, none⟩ = some (.pointer (some ⟨g, 0, none⟩)) ∧ u.cell? ⟨q, 4, none⟩ = some (.slice none 0 0) ∧ u.cell? ⟨q, 5, none⟩ = some (.int .i64 n) ∧ u.cell? ⟨q, 6, none⟩ = some (.int .i64 1) ∧ u.cell? ⟨q, 7, none⟩ = some (.int .i64 2) ∧ u.cell? ⟨q, 8, none⟩ = some (.int .i64 2) ∧ u.cell? ⟨q, 9, none⟩ = some (.string ⟨#[]⟩) ∧ u.cell? ⟨q, 10, none⟩ = some (.slice al 0 cl) ∧ u.cell? ⟨q, 11, none⟩ = some (.slice ak 0 ck) ∧ u.cell? ⟨q, 12, none⟩ = some (.int .i64 0) ∧ u.cell? ⟨q, 13, none⟩ = some (.int .i64 left)) := hide (fun (u : World) h => by
    refine ⟨?_, ?_, ?_, ?_, ?_, ?_, ?_, ?_, ?_, ?_, ?_, ?_, ?_, ?_⟩
    all_goals (rw [cell_of_row u q _ _ _ (0, 0) h]; rfl))
  obtain ⟨m0, m1, m2, m3, m4, m5, m6, m7, m8, m9, m10, m11, m12, m13⟩ := (unhide QC) w0 hq0
  have B0 := hide b0
  have HEm := hide hem
  clear hq hg b0 hem
  clear hw0
  go_wp2_with fail
  go_loopw [3, 15] (fun o d wr => o = .slice none 0 0 ∧ d = .int .i64 0 ∧ wr = w0) (fun _ _ _ => 0)
  case atStart => exact ⟨rfl, rfl, rfl⟩
  case round =>
    obtain ⟨rfl, rfl, rfl⟩ := hrel
    go_upto_region 11 with fail
    obtain ⟨O, hO⟩ : ∃ O, wr.heap.size = O := ⟨_, rfl⟩
    obtain ⟨w1, hw1⟩ : ∃ u, wr.alloc (.cells #[.int .i64 1, .int .i64 2, .int .i64 2, .string ⟨#[]⟩, .slice al 0 cl, .slice ak 0 ck, .int .i64 0, .int .i64 left] 31) = u := ⟨_, rfl⟩
    have b1 : Below wr.heap.size wr w1 := by rw [← hw1]; exact (Below.refl _ _).alloc (Nat.le_refl _) _
    have o1 : w1.heap[O]? = some (.cells #[.int .i64 1, .int .i64 2, .int .i64 2, .string ⟨#[]⟩, .slice al 0 cl, .slice ak 0 ck, .int .i64 0, .int .i64 left] 31 (0, 0)) := by rw [← hw1, ← hO]; exact heap_alloc_new _ _
    rw [hw1]
    try rw [hO]
    clear hw1
    have hov : V ≠ O := by rw [← hO]; exact Nat.ne_of_lt (lt_of_row v0)
    have hoz : w.heap.size ≤ O := by rw [← hO]; exact (unhide B0).size
    have CC := hide (copy_two al ak cl ck w1 (unhide HEm))
    obtain ⟨o'0, o'1, o'2, o'3, o'4, o'5, o'6, o'7⟩ := eight_cells o1
    have B1 := hide ((unhide B0).trans (b1.mono (unhide B0).size))
    have v1 := (b1.block V (lt_of_row v0)).trans v0
    have hq1 := (b1.block q (lt_of_row hq0)).trans hq0
    have hg1 := hg0.below b1
    clear b1 v0 hq0 hg0 hO B0 HEm m0 m1 m2 m3 m4 m5 m6 m7 m8 m9 m10 m11 m12 m13
    go_wp2_with fail
    refine (unhide CC).mono ?_
    rintro e w2 ⟨am, cm, an, cn, rfl, -, b2⟩
    have B2 := hide ((unhide B1).trans (b2.mono (unhide B1).size))
    have v2 := (b2.block V (lt_of_row v1)).trans v1
    have hq2 := (b2.block q (lt_of_row hq1)).trans hq1
    have hg2 := hg1.below b2
    have o2 := (b2.block O (lt_of_row o1)).trans o1
    clear b2 v1 hq1 hg1 o1 B1 CC o'0 o'1 o'2 o'3 o'4 o'5 o'6 o'7
    obtain ⟨o'0, o'1, o'2, o'3, o'4, o'5, o'6, o'7⟩ := eight_cells o2
    have y1 := frozen_of_row w2 O 1 _ _ o2
    have y2 := frozen_of_row w2 O 2 _ _ o2
    have y3 := frozen_of_row w2 O 3 _ _ o2
    have y4 := frozen_of_row w2 O 4 _ _ o2
    have y5 := frozen_of_row w2 O 5 _ _ o2
    go_upto_region 12 with fail
    have h5 := set5_1 (.int .i64 2) (.int .i64 2) (.string ⟨#[]⟩) (.slice am 0 cm) (.slice an 0 cn) o2
    obtain ⟨w3, hw3⟩ : ∃ u, ((((w2.setCell ⟨O, 1, none⟩ (.int .i64 2)).setCell ⟨O, 2, none⟩ (.int .i64 2)).setCell ⟨O, 3, none⟩ (.string ⟨#[]⟩)).setCell ⟨O, 4, none⟩ (.slice am 0 cm)).setCell ⟨O, 5, none⟩ (.slice an 0 cn) = u := ⟨_, rfl⟩
    rw [hw3] at h5
    try rw [hw3]
    have hqO := ne_of_types hq2 o2 (by rfl)
    have hgO := ne_of_types hg2 o2 (by rfl)
    have hq3 := (h5.2.block q (lt_of_row hq2) hqO).trans hq2
    have hg3 := hg2.later (h5.2.block g hg2.lt hgO)
    have hv3 := (h5.2.block V (lt_of_row v2) hov).trans v2
    have o3 := h5.1
    have B3 := hide ((unhide B2).trans (h5.2.low (fun k e => by rw [e]; exact hoz) (unhide B2).size))
    clear h5 hw3 hqO hgO o'0 o'1 o'2 o'3 o'4 o'5 o'6 o'7 y1 y2 y3 y4 y5 v2 hq2 hg2 o2 B2
    have HF : Hid (∀ u, Below w3.heap.size w3 u → (u.cell? ⟨q, 0, none⟩ = some (.slice none 0 0) ∧ u.cell? ⟨q, 1, none⟩ = some (.slice none 0 0) ∧ u.cell? ⟨q, 2, none⟩ = some (.pointer none) ∧ u.cell? ⟨q, 3, none⟩ = some (.pointer (some ⟨g, 0, none⟩)) ∧ u.cell? ⟨q, 4, none⟩ = some (.slice none 0 0) ∧ u.cell? ⟨q, 5, none⟩ = some (.int .i64 n)) ∧ u.cell? ⟨O, 0, none⟩ = some (.int .i64 1) ∧ u.cell? ⟨O, 1, none⟩ = some (.int .i64 2) ∧ u.cell? ⟨O, 2, none⟩ = some (.int .i64 2) ∧ u.cell? ⟨O, 3, none⟩ = some (.string ⟨#[]⟩) ∧ u.cell? ⟨O, 4, none⟩ = some (.slice am 0 cm) ∧ u.cell? ⟨O, 5, none⟩ = some (.slice an 0 cn) ∧ u.cell? ⟨O, 6, none⟩ = some (.int .i64 0) ∧ u.cell? ⟨O, 7, none⟩ = some (.int .i64 left)) := hide (fun u hu => by
      obtain ⟨m0, m1, m2, m3, m4, m5, -⟩ := (unhide QC) u ((hu.block q (lt_of_row hq3)).trans hq3)
      exact ⟨⟨m0, m1, m2, m3, m4, m5⟩, eight_cells ((hu.block O (lt_of_row o3)).trans o3)⟩)
    have HS0 : Hid (Below w3.heap.size w3 w3.drew) := hide ((Below.refl _ _).drew)
    refine till_begin (S := fun w' => Below w3.heap.size w3 w') 15 (by kernel_rfl) ?_
    obtain ⟨W0, hW0⟩ : ∃ W0, w3.drew = W0 := ⟨_, rfl⟩
    try rw [hW0]
    rw [hW0] at HS0
    clear hW0
    refine till_take 0 (v := .slice none 0 0) (some 40) rfl rfl rfl (by kernel_rfl) (by kernel_rfl) (by kernel_rfl) (by kernel_rfl) (fun _ _ _ h => h) (Or.inl ⟨by rfl, fun u hu => by obtain ⟨⟨m0, m1, m2, m3, m4, m5⟩, o0, o1, o2, o3, o4, o5, o6, o7⟩ := unhide HF u hu; go_simp⟩) (unhide HS0) ?_
    try simp only [Act.put, List.setIfInBounds_toArray, List.set_cons_zero, List.set_cons_succ]
    refine till_take 1 (v := .pointer (some ⟨q, 0, none⟩)) (some 41) rfl rfl rfl (by kernel_rfl) (by kernel_rfl) (by kernel_rfl) (by kernel_rfl) (fun _ _ _ h => h) (Or.inl ⟨by rfl, fun u hu => by obtain ⟨⟨m0, m1, m2, m3, m4, m5⟩, o0, o1, o2, o3, o4, o5, o6, o7⟩ := unhide HF u hu; go_simp⟩) (unhide HS0) ?_
    try simp only [Act.put, List.setIfInBounds_toArray, List.set_cons_zero, List.set_cons_succ]
    refine till_take 2 (v := .pointer (some ⟨q, 0, none⟩)) (some 42) rfl rfl rfl (by kernel_rfl) (by kernel_rfl) (by kernel_rfl) (by kernel_rfl) (fun _ _ _ h => h) (Or.inl ⟨by rfl, fun u hu => by obtain ⟨⟨m0, m1, m2, m3, m4, m5⟩, o0, o1, o2, o3, o4, o5, o6, o7⟩ := unhide HF u hu; go_simp⟩) (unhide HS0) ?_
    try simp only [Act.put, List.setIfInBounds_toArray, List.set_cons_zero, List.set_cons_succ]
    refine till_take 3 (v := .pointer (some ⟨q, 3, none⟩)) (some 43) rfl rfl rfl (by kernel_rfl) (by kernel_rfl) (by kernel_rfl) (by kernel_rfl) (fun _ _ _ h => h) (Or.inl ⟨by rfl, fun u hu => by obtain ⟨⟨m0, m1, m2, m3, m4, m5⟩, o0, o1, o2, o3, o4, o5, o6, o7⟩ := unhide HF u hu; go_simp⟩) (unhide HS0) ?_
    try simp only [Act.put, List.setIfInBounds_toArray, List.set_cons_zero, List.set_cons_succ]
    refine till_take 4 (v := .pointer (some ⟨g, 0, none⟩)) (some 44) rfl rfl rfl (by kernel_rfl) (by kernel_rfl) (by kernel_rfl) (by kernel_rfl) (fun _ _ _ h => h) (Or.inl ⟨by rfl, fun u hu => by obtain ⟨⟨m0, m1, m2, m3, m4, m5⟩, o0, o1, o2, o3, o4, o5, o6, o7⟩ := unhide HF u hu; go_simp⟩) (unhide HS0) ?_
    try simp only [Act.put, List.setIfInBounds_toArray, List.set_cons_zero, List.set_cons_succ]
    refine till_take 6 (v := .pointer (some ⟨q, 0, none⟩)) (some 46) rfl rfl rfl (by kernel_rfl) (by kernel_rfl) (by kernel_rfl) (by kernel_rfl) (fun _ _ _ h => h) (Or.inl ⟨by rfl, fun u hu => by obtain ⟨⟨m0, m1, m2, m3, m4, m5⟩, o0, o1, o2, o3, o4, o5, o6, o7⟩ := unhide HF u hu; go_simp⟩) (unhide HS0) ?_
    try simp only [Act.put, List.setIfInBounds_toArray, List.set_cons_zero, List.set_cons_succ]
    refine till_take 7 (v := .pointer (some ⟨q, 0, none⟩)) (some 47) rfl rfl rfl (by kernel_rfl) (by kernel_rfl) (by kernel_rfl) (by kernel_rfl) (fun _ _ _ h => h) (Or.inl ⟨by rfl, fun u hu => by obtain ⟨⟨m0, m1, m2, m3, m4, m5⟩, o0, o1, o2, o3, o4, o5, o6, o7⟩ := unhide HF u hu; go_simp⟩) (unhide HS0) ?_
    try simp only [Act.put, List.setIfInBounds_toArray, List.set_cons_zero, List.set_cons_succ]
    refine till_take 8 (v := .pointer (some ⟨q, 5, none⟩)) (some 48) rfl rfl rfl (by kernel_rfl) (by kernel_rfl) (by kernel_rfl) (by kernel_rfl) (fun _ _ _ h => h) (Or.inl ⟨by rfl, fun u hu => by obtain ⟨⟨m0, m1, m2, m3, m4, m5⟩, o0, o1, o2, o3, o4, o5, o6, o7⟩ := unhide HF u hu; go_simp⟩) (unhide HS0) ?_
    try simp only [Act.put, List.setIfInBounds_toArray, List.set_cons_zero, List.set_cons_succ]
    refine till_take 9 (v := .int .i64 n) (some 49) rfl rfl rfl (by kernel_rfl) (by kernel_rfl) (by kernel_rfl) (by kernel_rfl) (fun _ _ _ h => h) (Or.inl ⟨by rfl, fun u hu => by obtain ⟨⟨m0, m1, m2, m3, m4, m5⟩, o0, o1, o2, o3, o4, o5, o6, o7⟩ := unhide HF u hu; go_simp⟩) (unhide HS0) ?_
    try simp only [Act.put, List.setIfInBounds_toArray, List.set_cons_zero, List.set_cons_succ]
    refine till_take 10 (v := .pointer (some ⟨O, 0, none⟩)) (some 50) rfl rfl rfl (by kernel_rfl) (by kernel_rfl) (by kernel_rfl) (by kernel_rfl) (fun _ _ _ h => h) (Or.inl ⟨by rfl, fun u hu => by obtain ⟨⟨m0, m1, m2, m3, m4, m5⟩, o0, o1, o2, o3, o4, o5, o6, o7⟩ := unhide HF u hu; go_simp⟩) (unhide HS0) ?_
    try simp only [Act.put, List.setIfInBounds_toArray, List.set_cons_zero, List.set_cons_succ]
    refine till_take 11 (v := .int .i64 1) (some 51) rfl rfl rfl (by kernel_rfl) (by kernel_rfl) (by kernel_rfl) (by kernel_rfl) (fun _ _ _ h => h) (Or.inl ⟨by rfl, fun u hu => by obtain ⟨⟨m0, m1, m2, m3, m4, m5⟩, o0, o1, o2, o3, o4, o5, o6, o7⟩ := unhide HF u hu; go_simp⟩) (unhide HS0) ?_
    try simp only [Act.put, List.setIfInBounds_toArray, List.set_cons_zero, List.set_cons_succ]
    refine till_take 12 (v := .bool true) (some 52) rfl rfl rfl (by kernel_rfl) (by kernel_rfl) (by kernel_rfl) (by kernel_rfl) (fun _ _ _ h => h) (Or.inl ⟨by rfl, fun u hu => by obtain ⟨⟨m0, m1, m2, m3, m4, m5⟩, o0, o1, o2, o3, o4, o5, o6, o7⟩ := unhide HF u hu; go_simp⟩) (unhide HS0) ?_
    try simp only [Act.put, List.setIfInBounds_toArray, List.set_cons_zero, List.set_cons_succ]
    refine till_take 13 (v := .agg #[.int .i64 1, .int .i64 2, .int .i64 2, .string ⟨#[]⟩, .slice am 0 cm, .slice an 0 cn, .int .i64 0, .int .i64 left]) (some 53) rfl rfl rfl (by kernel_rfl) (by kernel_rfl) (by kernel_rfl) (by kernel_rfl) (fun _ _ _ h => h) (Or.inl ⟨by rfl, fun u hu => by obtain ⟨⟨m0, m1, m2, m3, m4, m5⟩, o0, o1, o2, o3, o4, o5, o6, o7⟩ := unhide HF u hu; go_simp⟩) (unhide HS0) ?_
    try simp only [Act.put, List.setIfInBounds_toArray, List.set_cons_zero, List.set_cons_succ]
    have CW := hide (left_any (hg3.below (unhide HS0)))
    refine till_one 5 (by kernel_rfl) rfl (fun K hK => ?_)
    go_simp
    refine (unhide CW).mono ?_
    rintro e W1 ⟨rfl, e1⟩
    rw [e1]
    clear e1 W1 CW
    go_wp2_with fail
    refine hK.out _ _ (Or.inr (unhide HS0)) ?_
    clear hK K
    try simp only [Act.put, List.setIfInBounds_toArray, List.set_cons_zero, List.set_cons_succ]
    refine till_one 14 (by kernel_rfl) rfl (fun K hK => ?_)
    go_simp
    refine hK.out _ _ (Or.inr (unhide HS0)) ?_
    clear hK K
    try simp only [Act.put, List.setIfInBounds_toArray, List.set_cons_zero, List.set_cons_succ]
    have hv4 := ((unhide HS0).block V (lt_of_row hv3)).trans hv3
    have k0 : W0.cell? ⟨V, 0, none⟩ = some (.slice none 0 0) := by rw [cell_of_row W0 _ 0 _ _ (0, 0) hv4]; rfl
    have k1 : W0.cell? ⟨V, 1, none⟩ = some (.int .i64 0) := by rw [cell_of_row W0 _ 1 _ _ (0, 0) hv4]; rfl
    have k2 : W0.cell? ⟨V, 2, none⟩ = some (.int .i64 0) := by rw [cell_of_row W0 _ 2 _ _ (0, 0) hv4]; rfl
    have k3 : W0.cell? ⟨V, 3, none⟩ = some (.bool false) := by rw [cell_of_row W0 _ 3 _ _ (0, 0) hv4]; rfl
    have k4 : W0.cell? ⟨V, 4, none⟩ = some (.int .i64 0) := by rw [cell_of_row W0 _ 4 _ _ (0, 0) hv4]; rfl
    have k5 : W0.cell? ⟨V, 5, none⟩ = some (.int .i64 0) := by rw [cell_of_row W0 _ 5 _ _ (0, 0) hv4]; rfl
    have k6 : W0.cell? ⟨V, 6, none⟩ = some (.int .i64 0) := by rw [cell_of_row W0 _ 6 _ _ (0, 0) hv4]; rfl
    have k7 : W0.cell? ⟨V, 7, none⟩ = some (.string ⟨#[]⟩) := by rw [cell_of_row W0 _ 7 _ _ (0, 0) hv4]; rfl
    have k8 : W0.cell? ⟨V, 8, none⟩ = some (.slice none 0 0) := by rw [cell_of_row W0 _ 8 _ _ (0, 0) hv4]; rfl
    have k9 : W0.cell? ⟨V, 9, none⟩ = some (.slice none 0 0) := by rw [cell_of_row W0 _ 9 _ _ (0, 0) hv4]; rfl
    have k10 : W0.cell? ⟨V, 10, none⟩ = some (.int .i64 0) := by rw [cell_of_row W0 _ 10 _ _ (0, 0) hv4]; rfl
    have k11 : W0.cell? ⟨V, 11, none⟩ = some (.int .i64 0) := by rw [cell_of_row W0 _ 11 _ _ (0, 0) hv4]; rfl
    have y0 := frozen_of_row W0 V 0 _ _ hv4
    have y1 := frozen_of_row W0 V 1 _ _ hv4
    have y2 := frozen_of_row W0 V 2 _ _ hv4
    have y3 := frozen_of_row W0 V 3 _ _ hv4
    have y4 := frozen_of_row W0 V 4 _ _ hv4
    have y5 := frozen_of_row W0 V 5 _ _ hv4
    have y6 := frozen_of_row W0 V 6 _ _ hv4
    have y7 := frozen_of_row W0 V 7 _ _ hv4
    have y8 := frozen_of_row W0 V 8 _ _ hv4
    have y9 := frozen_of_row W0 V 9 _ _ hv4
    have y10 := frozen_of_row W0 V 10 _ _ hv4
    have y11 := frozen_of_row W0 V 11 _ _ hv4
    refine till_one 15 (by kernel_rfl) rfl (fun K hK => ?_)
    go_simp
    have h12 := set12 (.slice none 0 0) (.int .i64 left) (.int .i64 n) (.bool true) (.int .i64 1) (.int .i64 2) (.int .i64 2) (.string ⟨#[]⟩) (.slice am 0 cm) (.slice an 0 cn) (.int .i64 0) (.int .i64 left) hv4
    obtain ⟨W1, hW1⟩ : ∃ u, ((((((((((((W0.setCell ⟨V, 0, none⟩ (.slice none 0 0)).setCell ⟨V, 1, none⟩ (.int .i64 left)).setCell ⟨V, 2, none⟩ (.int .i64 n)).setCell ⟨V, 3, none⟩ (.bool true)).setCell ⟨V, 4, none⟩ (.int .i64 1)).setCell ⟨V, 5, none⟩ (.int .i64 2)).setCell ⟨V, 6, none⟩ (.int .i64 2)).setCell ⟨V, 7, none⟩ (.string ⟨#[]⟩)).setCell ⟨V, 8, none⟩ (.slice am 0 cm)).setCell ⟨V, 9, none⟩ (.slice an 0 cn)).setCell ⟨V, 10, none⟩ (.int .i64 0)).setCell ⟨V, 11, none⟩ (.int .i64 left)) = u := ⟨_, rfl⟩
    rw [hW1] at h12 ⊢
    have HE := hide (And.intro h12.1 (((unhide B3).trans ((unhide HS0).mono (unhide B3).size)).trans (h12.2.low (fun k e => by rw [e]; exact Nat.le_of_eq hVe) (Nat.le_trans (unhide B3).size (unhide HS0).size))))
    clear h12 hW1 hv4 k0 y0 k1 y1 k2 y2 k3 y3 k4 y4 k5 y5 k6 y6 k7 y7 k8 y8 k9 y9 k10 y10 k11 y11
    refine hK.out _ _ (Or.inl (by first | rfl | trivial)) ?_
    clear hK K
    try simp only [Act.put, List.setIfInBounds_toArray, List.set_cons_zero, List.set_cons_succ]
    refine till_done (by kernel_rfl) ?_ _
    go_wp2_with fail
    exact bodyPost_ret (ret_c1 (p := 2) (T := 33) rfl _ _ V _ _ _ rfl (unhide HE).1 Tryz.underlying33 rfl size_view) rfl ⟨am, cm, an, cn, rfl, (unhide HE).2⟩
end Go.Proofs.YtmnbfcpkaglniaaGreatDoor

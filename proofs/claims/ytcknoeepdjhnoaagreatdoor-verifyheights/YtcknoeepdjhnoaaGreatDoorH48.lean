/-
  Layer 12, the statements' own shown: the document's examples; conditions: the package's variables.
-/
import Derived.Test.YtcknoeepdjhnoaaGreatDoorH34
set_option linter.unusedVariables false
set_option linter.unusedSimpArgs false
namespace Go.Proofs.YtcknoeepdjhnoaaGreatDoor
open Go.RowKit
set_option linter.unusedVariables false
set_option linter.unusedSimpArgs false

def shf0 : Fn := (0, 0, 1, ⟨#[1, 0, 9]⟩)
def shf1 : Fn := (0, 0, 1, ⟨#[4, 9]⟩)
def shm (fs : List Fn) : Md := ⟨[vl0], fs, []⟩

theorem sh_v0 : rightB vl0 = true := by
  simp [rightB, okB, wt, vl0, formB, okL, keysW, wtL]
  constructor <;> decide +kernel

theorem sh_r2 : rightM (shm [shf0, shf1]) = true := by
  unfold rightM formedB shm
  simp only [List.all_cons, List.all_nil, sh_v0]
  decide +kernel

theorem sh_r1 : rightM (shm [shf0]) = true := by
  unfold rightM formedB shm
  simp only [List.all_cons, List.all_nil, sh_v0]
  decide +kernel

theorem sh_mod2 : modF (shm [shf0, shf1]) = (124, 1, 0) := by
  unfold modF
  rw [if_pos sh_r2]
  decide +kernel
theorem sh_mod1 : modF (shm [shf0]) = (0, 0, 0) := by
  unfold modF
  rw [if_pos sh_r1]
  decide +kernel
theorem sh_hgt : hgtF (shm [shf0]) 0 = ([0, 1], (0, 0, 0)) := by
  unfold hgtF
  rw [if_pos ⟨sh_r1, by decide, by decide⟩]
  decide +kernel

/-- the example's module in memory -/
theorem sh_isM {w : World} {B G : Nat} {fs : List Fn} (hB : G + 1 < B) (hl : fs.length ≤ 2) (h0 : w.heap[G]? = some (.cells #[.int .i64 0, .int .i64 0, .string ⟨#[]⟩, .slice none 0 0, .slice none 0 0] 42 (0, 0)))
    (h1 : ∀ i f, fs[i]? = some f → ∀ j v, (fnV f)[j]? = some v → w.cell? ⟨G + 1, i * 4 + j, none⟩ = some v) (hs : ∀ f ∈ fs, f.2.2.2.size ≤ 140737488351232) : IsM w (fun b => b < B) (shm fs) (some ⟨G, 0, none⟩) 1 (some ⟨G + 1, 0, none⟩) 2 none 0 where
  hc := by
    unfold IsC shm
    refine IsP.of (V := fun _ => [.int .i64 0, .int .i64 0, .string ⟨#[]⟩, .slice none 0 0, .slice none 0 0]) ⟨by omega, by omega, by decide, (fun e => by cases e), fun _ => ⟨rfl, rfl⟩, by simp, Nat.le_refl _, by simp, by simp, by simp, ?_, (fun _ _ => rfl), (fun a h => by cases h), by simp⟩ ?_
    · intro a ha i hi
      cases ha
      refine ⟨by show G < B; omega, fun j v hv => ?_⟩
      have hi0 : i = 0 := by simp at hi; exact hi
      subst hi0
      rw [add_offR, add_offR, cell_of_row w G _ _ _ (0, 0) h0]
      simpa using hv
    · intro i y hy
      match i with
      | 0 =>
        simp at hy
        subst hy
        exact IsP.of (V := fun _ => []) ⟨by omega, by omega, by decide, fun _ => ⟨rfl, rfl⟩, fun _ => ⟨rfl, rfl⟩, Nat.le_refl _, Nat.le_refl _, by simp, by simp, by simp, (fun a h => by cases h), (fun i hi => by simp at hi), (fun a h => by cases h), by simp⟩ (fun i y hy => by simp at hy)
      | i + 1 => simp at hy
  hf := ⟨(fun e => by cases e), by simp [shm]; exact hl, by simp [shm]; omega, fun a ha i r hr => by
    cases ha
    refine ⟨hB, fun j v hv => ?_⟩
    simp only [shm, List.getElem?_map] at hr
    cases e : fs[i]? with
    | none => rw [e] at hr; cases hr
    | some f =>
      rw [e] at hr
      cases hr
      rw [add_offR, add_offR, Nat.zero_add]
      exact h1 i f e j v hv⟩
  hx := ⟨fun _ => ⟨rfl, rfl⟩, Nat.le_refl _, by simp [shm], fun a ha => by cases ha⟩
  bf := hs
  bx := by simp [shm]

set_option maxRecDepth 100000 in
set_option maxHeartbeats 4000000 in
theorem shown_any (w : World) (hT : Tab2 w) : Calls Tryz.prog 9 #[] w fun e w' => e = .returned (.bool true) ∧ Below w.heap.size w w' := by
  obtain ⟨G, hG⟩ : ∃ G, w.heap.size = G := ⟨_, rfl⟩
  have HT := hide hT
  have hbig := hT.big
  clear hT
  go_enter Tryz.func9, Tryz.ntmps9
  go_upto_region 2 with fail
  obtain ⟨a, ha⟩ : ∃ a, w.alloc (.cells #[.int .i64 0, .int .i64 0, .string ⟨#[]⟩, .slice none 0 0, .slice none 0 0] 42) = a := ⟨_, rfl⟩
  have a1 : a.heap[G]? = some (.cells #[.int .i64 0, .int .i64 0, .string ⟨#[]⟩, .slice none 0 0, .slice none 0 0] 42 (0, 0)) := by rw [← ha, ← hG]; exact heap_alloc_new _ _
  have a2 : a.heap.size = G + 1 := by rw [← ha, ← hG]; simp
  have a3 : Below w.heap.size w a := by rw [← ha]; exact (Below.refl _ _).alloc (Nat.le_refl _) _
  rw [ha]
  obtain ⟨b, hb⟩ : ∃ b, a.alloc (.cells #[.int .i64 0, .int .i64 0, .int .i64 1, .string ⟨#[1, 0, 9]⟩, .int .i64 0, .int .i64 0, .int .i64 1, .string ⟨#[4, 9]⟩] 50) = b := ⟨_, rfl⟩
  have b1 : b.heap[G + 1]? = some (.cells #[.int .i64 0, .int .i64 0, .int .i64 1, .string ⟨#[1, 0, 9]⟩, .int .i64 0, .int .i64 0, .int .i64 1, .string ⟨#[4, 9]⟩] 50 (0, 0)) := by rw [← hb, ← a2]; exact heap_alloc_new _ _
  have b2 : b.heap.size = G + 2 := by rw [← hb]; simp; omega
  have b3 : Below a.heap.size a b := by rw [← hb]; exact (Below.refl _ _).alloc (Nat.le_refl _) _
  rw [hb]
  obtain ⟨c, hc⟩ : ∃ c, b.alloc (.cells #[.slice (some ⟨G, 0, none⟩) 1 1, .slice (some ⟨G + 1, 0, none⟩) 2 2, .slice none 0 0] 27) = c := ⟨_, rfl⟩
  have c1 : c.heap[G + 1 + 1]? = some (.cells #[.slice (some ⟨G, 0, none⟩) 1 1, .slice (some ⟨G + 1, 0, none⟩) 2 2, .slice none 0 0] 27 (0, 0)) := by rw [← hc, show G + 1 + 1 = b.heap.size by omega]; exact heap_alloc_new _ _
  have c2 : c.heap.size = G + 3 := by rw [← hc]; simp; omega
  have c3 : Below b.heap.size b c := by rw [← hc]; exact (Below.refl _ _).alloc (Nat.le_refl _) _
  rw [hc]
  have BC : Below w.heap.size w c := a3.trans ((b3.mono (by omega)).trans (c3.mono (by omega)))
  have CELLS : Hid (∀ (u : World), (∀ q, q < G + 2 → u.heap[q]? = c.heap[q]?) → u.heap[G]? = some (.cells #[.int .i64 0, .int .i64 0, .string ⟨#[]⟩, .slice none 0 0, .slice none 0 0] 42 (0, 0)) ∧ u.heap[G + 1]? = some (.cells #[.int .i64 0, .int .i64 0, .int .i64 1, .string ⟨#[1, 0, 9]⟩, .int .i64 0, .int .i64 0, .int .i64 1, .string ⟨#[4, 9]⟩] 50 (0, 0))) := hide (fun u hu => ⟨by rw [hu G (by omega), c3.block _ (by omega), b3.block _ (by omega)]; exact a1, by rw [hu (G + 1) (by omega), c3.block _ (by omega)]; exact b1⟩)
  have MODS : Hid (∀ (u : World), (∀ q, q < G + 2 → u.heap[q]? = c.heap[q]?) → IsM u (fun b => b < G + 2) (shm [shf0, shf1]) (some ⟨G, 0, none⟩) 1 (some ⟨G + 1, 0, none⟩) 2 none 0 ∧ IsM u (fun b => b < G + 2) (shm [shf0]) (some ⟨G, 0, none⟩) 1 (some ⟨G + 1, 0, none⟩) 2 none 0) := hide (fun u hu => by
    obtain ⟨h0, h1⟩ := unhide CELLS u hu
    refine ⟨sh_isM (by omega) (by simp) h0 (fun i f hf j v hv => ?_) (by simp [shf0, shf1]; decide), sh_isM (by omega) (by simp) h0 (fun i f hf j v hv => ?_) (by simp [shf0]; decide)⟩
    · rw [cell_of_row u (G + 1) _ _ _ (0, 0) h1]
      match i with
      | 0 => simp at hf; subst hf; match j with
        | 0 => simp [fnV, shf0] at hv ⊢; exact hv
        | 1 => simp [fnV, shf0] at hv ⊢; exact hv
        | 2 => simp [fnV, shf0] at hv ⊢; exact hv
        | 3 => simp [fnV, shf0] at hv ⊢; exact hv
        | j + 4 => simp [fnV] at hv
      | 1 => simp at hf; subst hf; match j with
        | 0 => simp [fnV, shf1] at hv ⊢; exact hv
        | 1 => simp [fnV, shf1] at hv ⊢; exact hv
        | 2 => simp [fnV, shf1] at hv ⊢; exact hv
        | 3 => simp [fnV, shf1] at hv ⊢; exact hv
        | j + 4 => simp [fnV] at hv
      | i + 2 => simp at hf
    · rw [cell_of_row u (G + 1) _ _ _ (0, 0) h1]
      match i with
      | 0 => simp at hf; subst hf; match j with
        | 0 => simp [fnV, shf0] at hv ⊢; exact hv
        | 1 => simp [fnV, shf0] at hv ⊢; exact hv
        | 2 => simp [fnV, shf0] at hv ⊢; exact hv
        | 3 => simp [fnV, shf0] at hv ⊢; exact hv
        | j + 4 => simp [fnV] at hv
      | i + 1 => simp at hf)
  obtain ⟨M, hMM⟩ : ∃ M, G + 1 + 1 = M := ⟨_, rfl⟩
  rw [hMM] at c1
  simp only [hMM]
  obtain ⟨t0, t1, t2⟩ := row_cell3 c1
  have C1 := hide (module_any (shm [shf0, shf1]) (some ⟨G, 0, none⟩) 1 1 (some ⟨G + 1, 0, none⟩) 2 2 none 0 0 (G + 2) c (unhide MODS c (fun _ _ => rfl)).1 (by omega) (by omega) ((unhide HT).below BC) rfl rfl rfl)
  rw [sh_mod2] at C1
  simp only [fltV] at C1
  have HC := hide (And.intro BC (And.intro c1 c2))
  clear ha hb hc a1 a2 a3 b1 b2 b3 c1 c3 BC
  go_wp2_with fail
  refine (unhide C1).mono ?_
  rintro e w1 ⟨rfl, x1⟩
  have H1 := hide x1
  have s1 := x1.size
  clear x1 C1 t0 t1 t2
  go_upto_region 3 with fail
  obtain ⟨w2, hw2⟩ : ∃ w2, w1.alloc (.cells #[.int .i64 124, .int .i64 1, .int .i64 0] 31) = w2 := ⟨_, rfl⟩
  have d1 : w2.heap[w1.heap.size]? = some (.cells #[.int .i64 124, .int .i64 1, .int .i64 0] 31 (0, 0)) := by rw [← hw2]; exact heap_alloc_new _ _
  have d3 : Below w1.heap.size w1 w2 := by rw [← hw2]; exact (Below.refl _ _).alloc (Nat.le_refl _) _
  have d2 : w2.heap.size = w1.heap.size + 1 := by rw [← hw2]; simp
  rw [hw2]
  have m2 : w2.heap[M]? = some (.cells #[.slice (some ⟨G, 0, none⟩) 1 1, .slice (some ⟨G + 1, 0, none⟩) 2 2, .slice none 0 0] 27 (0, 0)) := (d3.block M (by omega)).trans (((unhide H1).block M (by omega)).trans (unhide HC).2.1)
  obtain ⟨t0, t1, t2⟩ := row_cell3 m2
  have fz := frozen_of_row w2 M 1 _ _ m2
  obtain ⟨R1, hR1⟩ : ∃ R1, w1.heap.size = R1 := ⟨_, rfl⟩
  rw [hR1] at d1 d2 ⊢
  have HW2 := hide (And.intro d1 (And.intro d3 (And.intro d2 m2)))
  clear hw2 d1 d3 m2
  go_upto_region 4 with fail
  obtain ⟨w3, hw3⟩ : ∃ w3, w2.setCell ⟨M, 1, none⟩ (.slice (some ⟨G + 1, 0, none⟩) 1 2) = w3 := ⟨_, rfl⟩
  have m3 : w3.heap[M]? = some (.cells #[.slice (some ⟨G, 0, none⟩) 1 1, .slice (some ⟨G + 1, 0, none⟩) 1 2, .slice none 0 0] 27 (0, 0)) := by
    have e0 := heap_setCell_same w2 M 1 _ 27 (.slice (some ⟨G + 1, 0, none⟩) 1 2) (unhide HW2).2.2.2
    rw [← hw3]
    simpa only [List.setIfInBounds_toArray, List.set_cons_zero, List.set_cons_succ] using e0
  have o3 : ∀ b, b ≠ M → w3.heap[b]? = w2.heap[b]? := fun b hb => by rw [← hw3]; exact heap_setCell_other _ _ _ _ hb
  have s3 : w3.heap.size = w2.heap.size := by rw [← hw3]; simp
  have B3 : Below (G + 2) c w3 := by
    rw [← hw3]
    exact (((unhide H1).mono (by omega)).trans ((unhide HW2).2.1.mono (by omega))).setCell (p := ⟨M, 1, none⟩) (by show G + 2 ≤ M; omega) _
  have BW3 : Below w.heap.size w w3 := (unhide HC).1.trans (B3.mono (by omega))
  rw [hw3]
  have r3 : w3.heap[R1]? = some (.cells #[.int .i64 124, .int .i64 1, .int .i64 0] 31 (0, 0)) := (o3 R1 (by omega)).trans (unhide HW2).1
  have IM3 := unhide MODS w3 (fun q hq => B3.block q hq)
  have C2 := hide (module_any (shm [shf0]) (some ⟨G, 0, none⟩) 1 1 (some ⟨G + 1, 0, none⟩) 1 2 none 0 0 (G + 2) w3 IM3.2 (by omega) (by omega) ((unhide HT).below BW3) rfl rfl rfl)
  rw [sh_mod1] at C2
  simp only [fltV] at C2
  obtain ⟨t0, t1, t2⟩ := row_cell3 m3
  have HW3 := hide (And.intro m3 (And.intro r3 (And.intro B3 BW3)))
  clear hw3 m3 o3 B3 BW3 r3 IM3 fz
  go_wp2_with fail
  refine (unhide C2).mono ?_
  rintro e w4 ⟨rfl, x4⟩
  have H4 := hide x4
  have s4 := x4.size
  clear x4 C2 t0 t1 t2
  go_upto_region 5 with fail
  obtain ⟨w5, hw5⟩ : ∃ w5, w4.alloc (.cells #[.int .i64 0, .int .i64 0, .int .i64 0] 31) = w5 := ⟨_, rfl⟩
  have d5 : w5.heap[w4.heap.size]? = some (.cells #[.int .i64 0, .int .i64 0, .int .i64 0] 31 (0, 0)) := by rw [← hw5]; exact heap_alloc_new _ _
  have x5 : Below w4.heap.size w4 w5 := by rw [← hw5]; exact (Below.refl _ _).alloc (Nat.le_refl _) _
  have z5 : w5.heap.size = w4.heap.size + 1 := by rw [← hw5]; simp
  rw [hw5]
  obtain ⟨R2, hR2⟩ : ∃ R2, w4.heap.size = R2 := ⟨_, rfl⟩
  rw [hR2] at d5 z5 ⊢
  obtain ⟨m3, r3, B3, BW3⟩ := unhide HW3
  have B5 : Below (G + 2) c w5 := B3.trans (((unhide H4).mono (by omega)).trans (x5.mono (by omega)))
  have BW5 : Below w.heap.size w w5 := (unhide HC).1.trans (B5.mono (by omega))
  have m5 : w5.heap[M]? = some (.cells #[.slice (some ⟨G, 0, none⟩) 1 1, .slice (some ⟨G + 1, 0, none⟩) 1 2, .slice none 0 0] 27 (0, 0)) := (x5.block M (by omega)).trans (((unhide H4).block M (by omega)).trans m3)
  have r5 : w5.heap[R1]? = some (.cells #[.int .i64 124, .int .i64 1, .int .i64 0] 31 (0, 0)) := (x5.block R1 (by omega)).trans (((unhide H4).block R1 (by omega)).trans r3)
  have IM5 := unhide MODS w5 (fun q hq => B5.block q hq)
  have C3 := hide (heights_any (shm [shf0]) (some ⟨G, 0, none⟩) 1 1 (some ⟨G + 1, 0, none⟩) 1 2 none 0 0 (G + 2) 0 w5 IM5.2 (by omega) (by omega) ((unhide HT).below BW5) rfl rfl rfl)
  unfold HgtR at C3
  rw [sh_hgt] at C3
  simp only [fltV] at C3
  obtain ⟨t0, t1, t2⟩ := row_cell3 m5
  have HW5 := hide (And.intro r5 (And.intro d5 BW5))
  clear hw5 m3 r3 B3 BW3 B5 BW5 m5 r5 IM5 d5 x5
  go_wp2_with fail
  refine (unhide C3).mono ?_
  rintro e w6 ⟨ao, ⟨cap, rfl, ho⟩, x6⟩
  have H6 := hide x6
  have s6 := x6.size
  obtain ⟨O, hao, o0, o1, hO⟩ : ∃ O, ao = some ⟨O, 0, none⟩ ∧ w6.cell? ⟨O, 0, none⟩ = some (.int .i64 0) ∧ w6.cell? ⟨O, 1, none⟩ = some (.int .i64 1) ∧ O < w6.heap.size := by
    rcases ho.2 with ⟨e, _⟩ | ⟨g, c', cur, e, h1, h2, h3, h4, h5, h6⟩
    · cases e
    · cases e
      have q : ∀ j v, [Value.int .i64 0, .int .i64 1][j]? = some v → w6.cell? ⟨g, j, none⟩ = some v := fun j v hv => by
        rw [cell_of_row w6 g j _ _ (0, 0) h2]
        have hv' : (List.map (Value.int .i64) [0, 1])[j]? = some v := hv
        rw [← h6, List.getElem?_take] at hv'
        split at hv'
        · simpa using hv'
        · cases hv'
      exact ⟨g, rfl, q 0 _ rfl, q 1 _ rfl, (Array.getElem?_eq_some_iff.1 h2).1⟩
  subst hao
  clear x6 C3 t0 t1 t2 ho
  go_upto_region 6 with fail
  obtain ⟨w7, hw7⟩ : ∃ w7, w6.alloc (.cells #[.int .i64 0, .int .i64 0, .int .i64 0] 31) = w7 := ⟨_, rfl⟩
  have d7 : w7.heap[w6.heap.size]? = some (.cells #[.int .i64 0, .int .i64 0, .int .i64 0] 31 (0, 0)) := by rw [← hw7]; exact heap_alloc_new _ _
  have x7 : Below w6.heap.size w6 w7 := by rw [← hw7]; exact (Below.refl _ _).alloc (Nat.le_refl _) _
  rw [hw7]
  obtain ⟨R3, hR3⟩ : ∃ R3, w6.heap.size = R3 := ⟨_, rfl⟩
  rw [hR3] at d7 ⊢
  obtain ⟨u0, u1, u2⟩ := row_cell3 d7
  obtain ⟨v0, v1, v2⟩ := row_cell3 ((x7.block R2 (by omega)).trans (((unhide H6).block R2 (by omega)).trans (unhide HW5).2.1))
  obtain ⟨p0, p1, p2⟩ := row_cell3 ((x7.block R1 (by omega)).trans (((unhide H6).block R1 (by omega)).trans (unhide HW5).1))
  have o0' := cell_ne o0 (x7.block _ (by show O < w6.heap.size; exact hO))
  have o1' := cell_ne o1 (x7.block _ (by show O < w6.heap.size; exact hO))
  have BW7 : Hid (Below w.heap.size w w7) := hide ((unhide HW5).2.2.trans (((unhide H6).trans (x7.mono (unhide H6).size)).mono (unhide HW5).2.2.size))
  clear hw7 d7 x7 o0 o1
  go_wp2_with fail
  go_ret
  exact ⟨rfl, by first | exact unhide BW7 | (rw [← hG]; exact unhide BW7)⟩
end Go.Proofs.YtcknoeepdjhnoaaGreatDoor

/-
  store's undoing, and what it makes: a function that lets a key be as it was; conditions: the form's own reach.
-/
import Derived.Test.YtdaooapfokhfcaaGreatA22
namespace Go.Proofs.YtdaooapfokhfcaaGreat
open Go.RowKit
set_option linter.unusedVariables false
set_option linter.unusedSimpArgs false

/-- three boxes: of the store, of the key, of the answer -/
structure Bx (w w3 : World) (s : Nat) (k : ByteArray) (G : Nat) : Prop where
  b1 : w3.heap[G]? = some (.cells #[.pointer (some ⟨s, 0, none⟩)] 23 (0, 0))
  b2 : w3.heap[G + 1]? = some (.cells #[.string k] 9 (0, 0))
  b3 : w3.heap[G + 1 + 1]? = some (.cells #[.nilFunc, .bool false] 73 (0, 0))
  size : w3.heap.size = G + 3
  low : w.heap.size = G
  below : Below w.heap.size w w3

theorem Bx.mk' (w : World) (s : Nat) (k : ByteArray) : Bx w (((w.alloc (.cells #[.pointer (some ⟨s, 0, none⟩)] 23)).alloc (.cells #[.string k] 9)).alloc (.cells #[.nilFunc, .bool false] 73)) s k w.heap.size := by
  obtain ⟨w1, h1⟩ : ∃ w1, w.alloc (.cells #[.pointer (some ⟨s, 0, none⟩)] 23) = w1 := ⟨_, rfl⟩
  have n1 := heap_alloc_new w (.cells #[.pointer (some ⟨s, 0, none⟩)] 23)
  have z1 : w1.heap.size = w.heap.size + 1 := by rw [← h1]; simp
  have d1 : Below w.heap.size w w1 := by rw [← h1]; exact (Below.refl _ _).alloc (Nat.le_refl _) _
  rw [h1] at n1 ⊢
  obtain ⟨w2, h2⟩ : ∃ w2, w1.alloc (.cells #[.string k] 9) = w2 := ⟨_, rfl⟩
  have n2 := heap_alloc_new w1 (.cells #[.string k] 9)
  have z2 : w2.heap.size = w.heap.size + 2 := by rw [← h2]; simp [z1]
  have d2 : Below w1.heap.size w1 w2 := by rw [← h2]; exact (Below.refl _ _).alloc (Nat.le_refl _) _
  rw [h2, z1] at n2
  rw [h2]
  obtain ⟨w3, h3⟩ : ∃ w3, w2.alloc (.cells #[.nilFunc, .bool false] 73) = w3 := ⟨_, rfl⟩
  have n3 := heap_alloc_new w2 (.cells #[.nilFunc, .bool false] 73)
  have z3 : w3.heap.size = w.heap.size + 3 := by rw [← h3]; simp [z2]
  have d3 : Below w2.heap.size w2 w3 := by rw [← h3]; exact (Below.refl _ _).alloc (Nat.le_refl _) _
  rw [h3, z2] at n3
  rw [h3]
  exact ⟨(d3.block _ (by omega)).trans ((d2.block _ (by omega)).trans n1), (d3.block _ (by omega)).trans n2, n3, z3, rfl, d1.trans ((d2.trans (d3.mono d2.size)).mono d1.size)⟩

theorem Bx.cells {w w3 u : World} {s : Nat} {k : ByteArray} {G : Nat} (h : Bx w w3 s k G) (hu : Below w3.heap.size w3 u) :
    u.heap[G]? = some (.cells #[.pointer (some ⟨s, 0, none⟩)] 23 (0, 0)) ∧ u.heap[G + 1]? = some (.cells #[.string k] 9 (0, 0)) ∧ u.heap[G + 1 + 1]? = some (.cells #[.nilFunc, .bool false] 73 (0, 0)) :=
  ⟨(hu.block _ (by have := h.size; omega)).trans h.b1, (hu.block _ (by have := h.size; omega)).trans h.b2, (hu.block _ (by have := h.size; omega)).trans h.b3⟩

theorem sets2 {u : World} {G : Nat} {T : TypeId} {o0 o1 a0 a1 : Value} (h : u.heap[G]? = some (.cells #[o0, o1] T (0, 0))) : ((u.setCell ⟨G, 0, none⟩ a0).setCell ⟨G, 1, none⟩ a1).heap[G]? = some (.cells #[a0, a1] T (0, 0)) ∧ ((u.setCell ⟨G, 0, none⟩ a0).setCell ⟨G, 1, none⟩ a1).heap.size = u.heap.size ∧ ∀ j, j ≠ G → ((u.setCell ⟨G, 0, none⟩ a0).setCell ⟨G, 1, none⟩ a1).heap[j]? = u.heap[j]? := by
  have h' : u.heap[G]? = some (.cells #[o0, o1] T (0, 0)) := h
  refine ⟨?_, by simp only [sz_setCell], fun j hj => by rw [heap_setCell_other _ _ _ _ hj, heap_setCell_other _ _ _ _ hj]⟩
  exact heap_setCell_same _ G 1 _ _ _ (heap_setCell_same _ G 0 _ _ _ h')

theorem size_undo : (Tryz.prog.info? 73).map (·.size) = some 2 := by kernel_rfl

/-- the answer's box is written: all else is as it was -/
theorem Bx.end {w w3 u : World} {s : Nat} {k : ByteArray} {G : Nat} {a0 a1 : Value} (h : Bx w w3 s k G) (hu : Below w3.heap.size w3 u) :
    ((u.setCell ⟨G + 1 + 1, 0, none⟩ a0).setCell ⟨G + 1 + 1, 1, none⟩ a1).heap[G + 1 + 1]? = some (.cells #[a0, a1] 73 (0, 0)) ∧ Below w.heap.size w ((u.setCell ⟨G + 1 + 1, 0, none⟩ a0).setCell ⟨G + 1 + 1, 1, none⟩ a1) ∧ w3.heap.size ≤ ((u.setCell ⟨G + 1 + 1, 0, none⟩ a0).setCell ⟨G + 1 + 1, 1, none⟩ a1).heap.size ∧ ∀ j, j ≠ G + 1 + 1 → ((u.setCell ⟨G + 1 + 1, 0, none⟩ a0).setCell ⟨G + 1 + 1, 1, none⟩ a1).heap[j]? = u.heap[j]? := by
  obtain ⟨s1, s2, s3⟩ := sets2 (a0 := a0) (a1 := a1) (h.cells hu).2.2
  have hb : Below w.heap.size w u := h.below.trans (hu.mono h.below.size)
  have hl := h.low
  refine ⟨s1, ?_, by rw [s2]; exact hu.size, s3⟩
  exact (hb.setCell (p := ⟨G + 1 + 1, 0, none⟩) (by show w.heap.size ≤ G + 1 + 1; omega) _).setCell (p := ⟨G + 1 + 1, 1, none⟩) (by show w.heap.size ≤ G + 1 + 1; omega) _

set_option maxRecDepth 100000 in
set_option maxHeartbeats 1600000 in
theorem undo_none {w : World} {V : Nat → Prop} {t : Sx} (h : Sto w V t) (k : ByteArray) (hkk : KeyOk k) (hO : lookK t.l k = none) :
    Calls Tryz.prog 47 #[.pointer (some ⟨t.s, 0, none⟩), .string k] w fun e w' => ∃ c : ThU, e = .returned (.agg (thU c).toArray) ∧ Below w.heap.size w w' ∧ UOk w' (VUp w w' V) t.s k (c, none) := by
  obtain ⟨G, hG⟩ : ∃ G, w.heap.size = G := ⟨_, rfl⟩
  have BX := Bx.mk' w t.s k
  obtain ⟨w3, hw3⟩ : ∃ w3, ((w.alloc (.cells #[.pointer (some ⟨t.s, 0, none⟩)] 23)).alloc (.cells #[.string k] 9)).alloc (.cells #[.nilFunc, .bool false] 73) = w3 := ⟨_, rfl⟩
  rw [hw3, hG] at BX
  have CG : Hid (∀ u, Below w3.heap.size w3 u → Calls Tryz.prog 55 #[.pointer (some ⟨t.g, 0, none⟩), .string k] u fun e w' => e = .returned (.tuple #[.agg #[.int .i64 0, .int .i64 0, .string ⟨#[]⟩, .slice none 0 0, .slice none 0 0], .bool false]) ∧ Below u.heap.size u w') := hide (fun u hu => by
    have hs := h.later (BX.below.trans (hu.mono BX.below.size))
    have := get_V hs.tab (mapK_rk _ hs.rk) k
    rw [mapK_look, hO] at this
    exact this)
  have HC : Hid (∀ u, Below w3.heap.size w3 u → u.cell? ⟨t.s, 0, none⟩ = some (.pointer (some ⟨t.g, 0, none⟩))) := hide (fun u hu => (h.later (BX.below.trans (hu.mono BX.below.size))).c0)
  have HB := hide BX
  clear h BX hO
  obtain ⟨s, g, v0, l0, W, mv, ms⟩ := t
  dsimp only at CG HC HB hw3 ⊢
  go_enter Tryz.func47, Tryz.ntmps47
  go_upto_region 1 with fail
  try rw [hG]
  try rw [hw3]
  have D0 : Below w3.heap.size w3 w3.drew := (Below.refl _ _).drew
  have HS0 : Hid (w3.drew.cell? ⟨s, 0, none⟩ = some (.pointer (some ⟨g, 0, none⟩)) ∧ w3.drew.cell? ⟨G, 0, none⟩ = some (.pointer (some ⟨s, 0, none⟩)) ∧ w3.drew.cell? ⟨G + 1, 0, none⟩ = some (.string k)) := hide ⟨unhide HC _ D0, by rw [cell_of_row _ G 0 _ _ (0, 0) ((unhide HB).cells D0).1]; rfl, by rw [cell_of_row _ (G + 1) 0 _ _ (0, 0) ((unhide HB).cells D0).2.1]; rfl⟩
  refine till_begin (S := fun w' => w'.cell? ⟨s, 0, none⟩ = some (.pointer (some ⟨g, 0, none⟩)) ∧ w'.cell? ⟨G, 0, none⟩ = some (.pointer (some ⟨s, 0, none⟩)) ∧ w'.cell? ⟨G + 1, 0, none⟩ = some (.string k)) 11 (by kernel_rfl) ?_
  refine till_take 0 (v := .pointer (some ⟨s, 0, none⟩)) (some 8) rfl rfl rfl (by kernel_rfl) (by kernel_rfl) (by kernel_rfl) (by kernel_rfl) (fun _ _ _ h => h) (Or.inl ⟨by rfl, fun u hu => by obtain ⟨b0, b1, b2⟩ := hu; go_simp⟩) (unhide HS0) ?_
  try simp only [Act.put, List.setIfInBounds_toArray, List.set_cons_zero, List.set_cons_succ]
  refine till_take 1 (v := .pointer (some ⟨s, 0, none⟩)) (some 9) rfl rfl rfl (by kernel_rfl) (by kernel_rfl) (by kernel_rfl) (by kernel_rfl) (fun _ _ _ h => h) (Or.inl ⟨by rfl, fun u hu => by obtain ⟨b0, b1, b2⟩ := hu; go_simp⟩) (unhide HS0) ?_
  try simp only [Act.put, List.setIfInBounds_toArray, List.set_cons_zero, List.set_cons_succ]
  refine till_take 2 (v := .pointer (some ⟨s, 0, none⟩)) (some 10) rfl rfl rfl (by kernel_rfl) (by kernel_rfl) (by kernel_rfl) (by kernel_rfl) (fun _ _ _ h => h) (Or.inl ⟨by rfl, fun u hu => by obtain ⟨b0, b1, b2⟩ := hu; go_simp⟩) (unhide HS0) ?_
  try simp only [Act.put, List.setIfInBounds_toArray, List.set_cons_zero, List.set_cons_succ]
  refine till_take 3 (v := .pointer (some ⟨g, 0, none⟩)) (some 11) rfl rfl rfl (by kernel_rfl) (by kernel_rfl) (by kernel_rfl) (by kernel_rfl) (fun _ _ _ h => h) (Or.inl ⟨by rfl, fun u hu => by obtain ⟨b0, b1, b2⟩ := hu; go_simp⟩) (unhide HS0) ?_
  try simp only [Act.put, List.setIfInBounds_toArray, List.set_cons_zero, List.set_cons_succ]
  refine till_take 4 (v := .string k) (some 12) rfl rfl rfl (by kernel_rfl) (by kernel_rfl) (by kernel_rfl) (by kernel_rfl) (fun _ _ _ h => h) (Or.inl ⟨by rfl, fun u hu => by obtain ⟨b0, b1, b2⟩ := hu; go_simp⟩) (unhide HS0) ?_
  try simp only [Act.put, List.setIfInBounds_toArray, List.set_cons_zero, List.set_cons_succ]
  refine till_two 5 9 (by kernel_rfl) rfl rfl (fun K hK => ?_) (fun K hK => ?_)
  · go_simp
    refine (unhide CG _ D0).mono ?_
    rintro e u1 ⟨rfl, b1⟩
    have D1 : Below w3.heap.size w3 u1 := D0.trans (b1.mono D0.size)
    have HS1 : Hid (u1.cell? ⟨s, 0, none⟩ = some (.pointer (some ⟨g, 0, none⟩)) ∧ u1.cell? ⟨G, 0, none⟩ = some (.pointer (some ⟨s, 0, none⟩)) ∧ u1.cell? ⟨G + 1, 0, none⟩ = some (.string k)) := hide ⟨unhide HC _ D1, by rw [cell_of_row _ G 0 _ _ (0, 0) ((unhide HB).cells D1).1]; rfl, by rw [cell_of_row _ (G + 1) 0 _ _ (0, 0) ((unhide HB).cells D1).2.1]; rfl⟩
    clear b1 CG
    go_wp2_with fail
    refine hK.out _ _ (Or.inr (unhide HS1)) ?_
    clear hK K
    try simp only [Act.put, List.setIfInBounds_toArray, List.set_cons_zero, List.set_cons_succ]
    refine till_take 6 (v := .tuple #[.agg #[.int .i64 0, .int .i64 0, .string ⟨#[]⟩, .slice none 0 0, .slice none 0 0], .bool false]) (some 7) rfl rfl rfl (by kernel_rfl) (by kernel_rfl) (by kernel_rfl) (by kernel_rfl) (fun _ _ _ h => h) (Or.inl ⟨by rfl, fun u hu => by obtain ⟨b0, b1, b2⟩ := hu; go_simp⟩) (unhide HS1) ?_
    try simp only [Act.put, List.setIfInBounds_toArray, List.set_cons_zero, List.set_cons_succ]
    refine till_take 7 (v := .agg #[.int .i64 0, .int .i64 0, .string ⟨#[]⟩, .slice none 0 0, .slice none 0 0]) (some 14) rfl rfl rfl (by kernel_rfl) (by kernel_rfl) (by kernel_rfl) (by kernel_rfl) (fun _ _ _ h => h) (Or.inl ⟨by rfl, fun u hu => by obtain ⟨b0, b1, b2⟩ := hu; go_simp⟩) (unhide HS1) ?_
    try simp only [Act.put, List.setIfInBounds_toArray, List.set_cons_zero, List.set_cons_succ]
    refine till_take 8 (v := .bool false) (some 15) rfl rfl rfl (by kernel_rfl) (by kernel_rfl) (by kernel_rfl) (by kernel_rfl) (fun _ _ _ h => h) (Or.inl ⟨by rfl, fun u hu => by obtain ⟨b0, b1, b2⟩ := hu; go_simp⟩) (unhide HS1) ?_
    try simp only [Act.put, List.setIfInBounds_toArray, List.set_cons_zero, List.set_cons_succ]
    obtain ⟨u2, hu2⟩ : ∃ u2, u1.alloc (.cells #[.int .i64 0, .int .i64 0, .string ⟨#[]⟩, .slice none 0 0, .slice none 0 0] 32) = u2 := ⟨_, rfl⟩
    obtain ⟨bn, hbn⟩ : ∃ bn, u1.heap.size = bn := ⟨_, rfl⟩
    have N2 : u2.heap[bn]? = some (.cells #[.int .i64 0, .int .i64 0, .string ⟨#[]⟩, .slice none 0 0, .slice none 0 0] 32 (0, 0)) := by rw [← hu2, ← hbn]; exact heap_alloc_new u1 _
    have D2 : Below w3.heap.size w3 u2 := by rw [← hu2]; exact D1.alloc D1.size _
    have hlow : w3.heap.size ≤ bn := by rw [← hbn]; exact D1.size
    have HS2 : Hid (u2.cell? ⟨s, 0, none⟩ = some (.pointer (some ⟨g, 0, none⟩)) ∧ u2.cell? ⟨G, 0, none⟩ = some (.pointer (some ⟨s, 0, none⟩)) ∧ u2.cell? ⟨G + 1, 0, none⟩ = some (.string k)) := hide ⟨unhide HC _ D2, by rw [cell_of_row _ G 0 _ _ (0, 0) ((unhide HB).cells D2).1]; rfl, by rw [cell_of_row _ (G + 1) 0 _ _ (0, 0) ((unhide HB).cells D2).2.1]; rfl⟩
    refine till_one 9 (by kernel_rfl) rfl (fun K hK => ?_)
    go_simp
    try rw [hu2]
    try rw [hbn]
    refine hK.out _ _ (Or.inr (unhide HS2)) ?_
    clear hK K HS0 HS1
    try simp only [Act.put, List.setIfInBounds_toArray, List.set_cons_zero, List.set_cons_succ]
    obtain ⟨s1, s2, s3, s4⟩ := setsV (a0 := .int .i64 0) (a1 := .int .i64 0) (a2 := .string ⟨#[]⟩) (a3 := .slice none 0 0) (a4 := .slice none 0 0) N2
    have z0 : u2.cell? ⟨bn, 0, none⟩ = some (.int .i64 0) := by rw [cell_of_row u2 bn 0 _ _ (0, 0) N2]; rfl
    have f0 := frozen_of_row u2 bn 0 _ _ N2
    have z1 : u2.cell? ⟨bn, 1, none⟩ = some (.int .i64 0) := by rw [cell_of_row u2 bn 1 _ _ (0, 0) N2]; rfl
    have f1 := frozen_of_row u2 bn 1 _ _ N2
    have z2 : u2.cell? ⟨bn, 2, none⟩ = some (.string ⟨#[]⟩) := by rw [cell_of_row u2 bn 2 _ _ (0, 0) N2]; rfl
    have f2 := frozen_of_row u2 bn 2 _ _ N2
    have z3 : u2.cell? ⟨bn, 3, none⟩ = some (.slice none 0 0) := by rw [cell_of_row u2 bn 3 _ _ (0, 0) N2]; rfl
    have f3 := frozen_of_row u2 bn 3 _ _ N2
    have z4 : u2.cell? ⟨bn, 4, none⟩ = some (.slice none 0 0) := by rw [cell_of_row u2 bn 4 _ _ (0, 0) N2]; rfl
    have f4 := frozen_of_row u2 bn 4 _ _ N2
    obtain ⟨uu, huu⟩ : ∃ uu, ((((u2.setCell ⟨bn, 0, none⟩ (.int .i64 0)).setCell ⟨bn, 1, none⟩ (.int .i64 0)).setCell ⟨bn, 2, none⟩ (.string ⟨#[]⟩)).setCell ⟨bn, 3, none⟩ (.slice none 0 0)).setCell ⟨bn, 4, none⟩ (.slice none 0 0) = uu := ⟨_, rfl⟩
    rw [huu] at s1 s2 s3
    have D3 : Below w3.heap.size w3 uu := by rw [← huu]; exact s4 _ _ D2 hlow
    have HU := hide (And.intro D3 (And.intro hlow s1))
    have HS3 : Hid (uu.cell? ⟨s, 0, none⟩ = some (.pointer (some ⟨g, 0, none⟩)) ∧ uu.cell? ⟨G, 0, none⟩ = some (.pointer (some ⟨s, 0, none⟩)) ∧ uu.cell? ⟨G + 1, 0, none⟩ = some (.string k)) := hide ⟨unhide HC _ D3, by rw [cell_of_row _ G 0 _ _ (0, 0) ((unhide HB).cells D3).1]; rfl, by rw [cell_of_row _ (G + 1) 0 _ _ (0, 0) ((unhide HB).cells D3).2.1]; rfl⟩
    refine till_one 10 (by kernel_rfl) rfl (fun K hK => ?_)
    clear s1 s2 s3 s4 N2
    go_simp
    try rw [huu]
    refine hK.out _ _ (Or.inr (unhide HS3)) ?_
    clear hK K z0 f0 z1 f1 z2 f2 z3 f3 z4 f4
    try simp only [Act.put, List.setIfInBounds_toArray, List.set_cons_zero, List.set_cons_succ]
    refine till_one 11 (by kernel_rfl) rfl (fun K hK => ?_)
    obtain ⟨b0, b1, b2⟩ := unhide HS3
    go_simp
    refine hK.out _ _ (Or.inl rfl) ?_
    clear hK K b0 b1 b2
    try simp only [Act.put, List.setIfInBounds_toArray, List.set_cons_zero, List.set_cons_succ]
    refine till_done (by kernel_rfl) ?_ _
    clear HS3 HS2 huu D3 hlow D2
    obtain ⟨r1, r2, r3⟩ := (unhide HB).cells (unhide HU).1
    have q0 : uu.cell? ⟨G + 1 + 1, 0, none⟩ = some .nilFunc := by rw [cell_of_row _ (G + 1 + 1) 0 _ _ (0, 0) r3]; rfl
    have q1 : uu.cell? ⟨G + 1 + 1, 1, none⟩ = some (.bool false) := by rw [cell_of_row _ (G + 1 + 1) 1 _ _ (0, 0) r3]; rfl
    have y0 := frozen_of_row uu (G + 1 + 1) 0 _ _ r3
    have y1 := frozen_of_row uu (G + 1 + 1) 1 _ _ r3
    have ql : G + 1 + 1 < uu.heap.size := (Array.getElem?_eq_some_iff.1 r3).1
    clear r1 r2 r3
    go_wp2_with fail
    obtain ⟨e1, e2, e3, e4⟩ := (unhide HB).end (a0 := .func (.func 80) #[] #[.pointer (some ⟨G, 0, none⟩), .pointer (some ⟨G + 1, 0, none⟩)]) (a1 := .bool true) (unhide HU).1
    refine bodyPost_ret (results_cell_row (p := 4) (ty := 73) rfl _ _ (G + 1 + 1) _ _ (0, 0) _ rfl e1 (show Tryz.prog.underlying 73 = some _ from rfl) rfl size_undo) rfl ?_
    obtain ⟨r1, r2, r3⟩ := (unhide HB).cells (unhide HU).1
    have hz := (unhide HB).size
    have hz2 := (unhide HU).1.size
    have hlo := (unhide HB).low
    refine ⟨(_, _, _, _), rfl, e2, hkk, G, G + 1, .inr ⟨by omega, by omega⟩, .inr ⟨by omega, by omega⟩, (e4 G (by omega)).trans r1, (e4 (G + 1) (by omega)).trans r2, rfl⟩
  · obtain ⟨u1, hu1⟩ : ∃ u1, w3.drew.alloc (.cells #[.int .i64 0, .int .i64 0, .string ⟨#[]⟩, .slice none 0 0, .slice none 0 0] 32) = u1 := ⟨_, rfl⟩
    obtain ⟨bn, hbn⟩ : ∃ bn, w3.heap.size = bn := ⟨_, rfl⟩
    have N1 : u1.heap[bn]? = some (.cells #[.int .i64 0, .int .i64 0, .string ⟨#[]⟩, .slice none 0 0, .slice none 0 0] 32 (0, 0)) := by rw [← hu1, ← hbn]; exact heap_alloc_new w3.drew _
    have D1 : Below w3.heap.size w3 u1 := by rw [← hu1]; exact D0.alloc (Nat.le_refl _) _
    have hlow : w3.heap.size ≤ bn := Nat.le_of_eq hbn
    have HS1 : Hid (u1.cell? ⟨s, 0, none⟩ = some (.pointer (some ⟨g, 0, none⟩)) ∧ u1.cell? ⟨G, 0, none⟩ = some (.pointer (some ⟨s, 0, none⟩)) ∧ u1.cell? ⟨G + 1, 0, none⟩ = some (.string k)) := hide ⟨unhide HC _ D1, by rw [cell_of_row _ G 0 _ _ (0, 0) ((unhide HB).cells D1).1]; rfl, by rw [cell_of_row _ (G + 1) 0 _ _ (0, 0) ((unhide HB).cells D1).2.1]; rfl⟩
    have CG2 := hide (unhide CG _ D1)
    clear CG
    go_simp
    try rw [hu1]
    refine hK.out _ _ (Or.inr (unhide HS1)) ?_
    clear hK K
    try simp only [Act.put, List.setIfInBounds_toArray, List.set_cons_zero, List.set_cons_succ]
    refine till_one 5 (by kernel_rfl) rfl (fun K hK => ?_)
    go_simp
    refine (unhide CG2).mono ?_
    rintro e u2 ⟨rfl, b2⟩
    have N2 := (b2.block bn (Array.getElem?_eq_some_iff.1 N1).1).trans N1
    have D2 : Below w3.heap.size w3 u2 := D1.trans (b2.mono D1.size)
    have HS2 : Hid (u2.cell? ⟨s, 0, none⟩ = some (.pointer (some ⟨g, 0, none⟩)) ∧ u2.cell? ⟨G, 0, none⟩ = some (.pointer (some ⟨s, 0, none⟩)) ∧ u2.cell? ⟨G + 1, 0, none⟩ = some (.string k)) := hide ⟨unhide HC _ D2, by rw [cell_of_row _ G 0 _ _ (0, 0) ((unhide HB).cells D2).1]; rfl, by rw [cell_of_row _ (G + 1) 0 _ _ (0, 0) ((unhide HB).cells D2).2.1]; rfl⟩
    clear b2 CG2 N1
    go_wp2_with fail
    refine hK.out _ _ (Or.inr (unhide HS2)) ?_
    clear hK K HS0 HS1
    try simp only [Act.put, List.setIfInBounds_toArray, List.set_cons_zero, List.set_cons_succ]
    refine till_take 6 (v := .tuple #[.agg #[.int .i64 0, .int .i64 0, .string ⟨#[]⟩, .slice none 0 0, .slice none 0 0], .bool false]) (some 7) rfl rfl rfl (by kernel_rfl) (by kernel_rfl) (by kernel_rfl) (by kernel_rfl) (fun _ _ _ h => h) (Or.inl ⟨by rfl, fun u hu => by obtain ⟨b0, b1, b2⟩ := hu; go_simp⟩) (unhide HS2) ?_
    try simp only [Act.put, List.setIfInBounds_toArray, List.set_cons_zero, List.set_cons_succ]
    refine till_take 7 (v := .agg #[.int .i64 0, .int .i64 0, .string ⟨#[]⟩, .slice none 0 0, .slice none 0 0]) (some 14) rfl rfl rfl (by kernel_rfl) (by kernel_rfl) (by kernel_rfl) (by kernel_rfl) (fun _ _ _ h => h) (Or.inl ⟨by rfl, fun u hu => by obtain ⟨b0, b1, b2⟩ := hu; go_simp⟩) (unhide HS2) ?_
    try simp only [Act.put, List.setIfInBounds_toArray, List.set_cons_zero, List.set_cons_succ]
    refine till_take 8 (v := .bool false) (some 15) rfl rfl rfl (by kernel_rfl) (by kernel_rfl) (by kernel_rfl) (by kernel_rfl) (fun _ _ _ h => h) (Or.inl ⟨by rfl, fun u hu => by obtain ⟨b0, b1, b2⟩ := hu; go_simp⟩) (unhide HS2) ?_
    try simp only [Act.put, List.setIfInBounds_toArray, List.set_cons_zero, List.set_cons_succ]
    obtain ⟨s1, s2, s3, s4⟩ := setsV (a0 := .int .i64 0) (a1 := .int .i64 0) (a2 := .string ⟨#[]⟩) (a3 := .slice none 0 0) (a4 := .slice none 0 0) N2
    have z0 : u2.cell? ⟨bn, 0, none⟩ = some (.int .i64 0) := by rw [cell_of_row u2 bn 0 _ _ (0, 0) N2]; rfl
    have f0 := frozen_of_row u2 bn 0 _ _ N2
    have z1 : u2.cell? ⟨bn, 1, none⟩ = some (.int .i64 0) := by rw [cell_of_row u2 bn 1 _ _ (0, 0) N2]; rfl
    have f1 := frozen_of_row u2 bn 1 _ _ N2
    have z2 : u2.cell? ⟨bn, 2, none⟩ = some (.string ⟨#[]⟩) := by rw [cell_of_row u2 bn 2 _ _ (0, 0) N2]; rfl
    have f2 := frozen_of_row u2 bn 2 _ _ N2
    have z3 : u2.cell? ⟨bn, 3, none⟩ = some (.slice none 0 0) := by rw [cell_of_row u2 bn 3 _ _ (0, 0) N2]; rfl
    have f3 := frozen_of_row u2 bn 3 _ _ N2
    have z4 : u2.cell? ⟨bn, 4, none⟩ = some (.slice none 0 0) := by rw [cell_of_row u2 bn 4 _ _ (0, 0) N2]; rfl
    have f4 := frozen_of_row u2 bn 4 _ _ N2
    obtain ⟨uu, huu⟩ : ∃ uu, ((((u2.setCell ⟨bn, 0, none⟩ (.int .i64 0)).setCell ⟨bn, 1, none⟩ (.int .i64 0)).setCell ⟨bn, 2, none⟩ (.string ⟨#[]⟩)).setCell ⟨bn, 3, none⟩ (.slice none 0 0)).setCell ⟨bn, 4, none⟩ (.slice none 0 0) = uu := ⟨_, rfl⟩
    rw [huu] at s1 s2 s3
    have D3 : Below w3.heap.size w3 uu := by rw [← huu]; exact s4 _ _ D2 hlow
    have HU := hide (And.intro D3 (And.intro hlow s1))
    have HS3 : Hid (uu.cell? ⟨s, 0, none⟩ = some (.pointer (some ⟨g, 0, none⟩)) ∧ uu.cell? ⟨G, 0, none⟩ = some (.pointer (some ⟨s, 0, none⟩)) ∧ uu.cell? ⟨G + 1, 0, none⟩ = some (.string k)) := hide ⟨unhide HC _ D3, by rw [cell_of_row _ G 0 _ _ (0, 0) ((unhide HB).cells D3).1]; rfl, by rw [cell_of_row _ (G + 1) 0 _ _ (0, 0) ((unhide HB).cells D3).2.1]; rfl⟩
    refine till_one 10 (by kernel_rfl) rfl (fun K hK => ?_)
    clear s1 s2 s3 s4 N2
    go_simp
    try rw [huu]
    refine hK.out _ _ (Or.inr (unhide HS3)) ?_
    clear hK K z0 f0 z1 f1 z2 f2 z3 f3 z4 f4
    try simp only [Act.put, List.setIfInBounds_toArray, List.set_cons_zero, List.set_cons_succ]
    refine till_one 11 (by kernel_rfl) rfl (fun K hK => ?_)
    obtain ⟨b0, b1, b2⟩ := unhide HS3
    go_simp
    refine hK.out _ _ (Or.inl rfl) ?_
    clear hK K b0 b1 b2
    try simp only [Act.put, List.setIfInBounds_toArray, List.set_cons_zero, List.set_cons_succ]
    refine till_done (by kernel_rfl) ?_ _
    clear HS3 HS2 huu D3 hlow D2
    obtain ⟨r1, r2, r3⟩ := (unhide HB).cells (unhide HU).1
    have q0 : uu.cell? ⟨G + 1 + 1, 0, none⟩ = some .nilFunc := by rw [cell_of_row _ (G + 1 + 1) 0 _ _ (0, 0) r3]; rfl
    have q1 : uu.cell? ⟨G + 1 + 1, 1, none⟩ = some (.bool false) := by rw [cell_of_row _ (G + 1 + 1) 1 _ _ (0, 0) r3]; rfl
    have y0 := frozen_of_row uu (G + 1 + 1) 0 _ _ r3
    have y1 := frozen_of_row uu (G + 1 + 1) 1 _ _ r3
    have ql : G + 1 + 1 < uu.heap.size := (Array.getElem?_eq_some_iff.1 r3).1
    clear r1 r2 r3
    go_wp2_with fail
    obtain ⟨e1, e2, e3, e4⟩ := (unhide HB).end (a0 := .func (.func 80) #[] #[.pointer (some ⟨G, 0, none⟩), .pointer (some ⟨G + 1, 0, none⟩)]) (a1 := .bool true) (unhide HU).1
    refine bodyPost_ret (results_cell_row (p := 4) (ty := 73) rfl _ _ (G + 1 + 1) _ _ (0, 0) _ rfl e1 (show Tryz.prog.underlying 73 = some _ from rfl) rfl size_undo) rfl ?_
    obtain ⟨r1, r2, r3⟩ := (unhide HB).cells (unhide HU).1
    have hz := (unhide HB).size
    have hz2 := (unhide HU).1.size
    have hlo := (unhide HB).low
    refine ⟨(_, _, _, _), rfl, e2, hkk, G, G + 1, .inr ⟨by omega, by omega⟩, .inr ⟨by omega, by omega⟩, (e4 G (by omega)).trans r1, (e4 (G + 1) (by omega)).trans r2, rfl⟩

set_option maxRecDepth 100000 in
set_option maxHeartbeats 1600000 in
theorem undo_some {w : World} {V : Nat → Prop} {t : Sx} (h : Sto w V t) (k : ByteArray) (hkk : KeyOk k) (x0 x1 : Int) (x2 : ByteArray) (x3 : Option Addr) (x4 x5 : Nat) (x6 : Option Addr) (x7 x8 : Nat) (xv : Vl) (hO : lookK t.l k = some ((x0, x1, x2, x3, x4, x5, x6, x7, x8), xv)) :
    Calls Tryz.prog 47 #[.pointer (some ⟨t.s, 0, none⟩), .string k] w fun e w' => ∃ c : ThU, e = .returned (.agg (thU c).toArray) ∧ Below w.heap.size w w' ∧ UOk w' (VUp w w' V) t.s k (c, some xv) := by
  obtain ⟨G, hG⟩ : ∃ G, w.heap.size = G := ⟨_, rfl⟩
  have BX := Bx.mk' w t.s k
  obtain ⟨w3, hw3⟩ : ∃ w3, ((w.alloc (.cells #[.pointer (some ⟨t.s, 0, none⟩)] 23)).alloc (.cells #[.string k] 9)).alloc (.cells #[.nilFunc, .bool false] 73) = w3 := ⟨_, rfl⟩
  rw [hw3, hG] at BX
  have CG : Hid (∀ u, Below w3.heap.size w3 u → Calls Tryz.prog 55 #[.pointer (some ⟨t.g, 0, none⟩), .string k] u fun e w' => e = .returned (.tuple #[.agg #[.int .i64 x0, .int .i64 x1, .string x2, .slice x3 x4 x5, .slice x6 x7 x8], .bool true]) ∧ Below u.heap.size u w') := hide (fun u hu => by
    have hs := h.later (BX.below.trans (hu.mono BX.below.size))
    have := get_V hs.tab (mapK_rk _ hs.rk) k
    rw [mapK_look, hO] at this
    exact this)
  have HC : Hid (∀ u, Below w3.heap.size w3 u → u.cell? ⟨t.s, 0, none⟩ = some (.pointer (some ⟨t.g, 0, none⟩))) := hide (fun u hu => (h.later (BX.below.trans (hu.mono BX.below.size))).c0)
  have HE : Hid (∀ u, Below w.heap.size w u → IsP u (VUp w u V) xv (.agg (thV (x0, x1, x2, x3, x4, x5, x6, x7, x8)).toArray)) := hide (fun u hu => (h.ok k _ (look_mem hO)).is.to (fun b hb => hu.block b (h.vs b hb).1) (fun b hb => .inl hb))
  have hrt : rightB xv = true := (h.ok k _ (look_mem hO)).right
  have HB := hide BX
  clear h BX hO
  obtain ⟨s, g, v0, l0, W, mv, ms⟩ := t
  dsimp only at CG HC HB hw3 ⊢
  go_enter Tryz.func47, Tryz.ntmps47
  go_upto_region 1 with fail
  try rw [hG]
  try rw [hw3]
  have D0 : Below w3.heap.size w3 w3.drew := (Below.refl _ _).drew
  have HS0 : Hid (w3.drew.cell? ⟨s, 0, none⟩ = some (.pointer (some ⟨g, 0, none⟩)) ∧ w3.drew.cell? ⟨G, 0, none⟩ = some (.pointer (some ⟨s, 0, none⟩)) ∧ w3.drew.cell? ⟨G + 1, 0, none⟩ = some (.string k)) := hide ⟨unhide HC _ D0, by rw [cell_of_row _ G 0 _ _ (0, 0) ((unhide HB).cells D0).1]; rfl, by rw [cell_of_row _ (G + 1) 0 _ _ (0, 0) ((unhide HB).cells D0).2.1]; rfl⟩
  refine till_begin (S := fun w' => w'.cell? ⟨s, 0, none⟩ = some (.pointer (some ⟨g, 0, none⟩)) ∧ w'.cell? ⟨G, 0, none⟩ = some (.pointer (some ⟨s, 0, none⟩)) ∧ w'.cell? ⟨G + 1, 0, none⟩ = some (.string k)) 11 (by kernel_rfl) ?_
  refine till_take 0 (v := .pointer (some ⟨s, 0, none⟩)) (some 8) rfl rfl rfl (by kernel_rfl) (by kernel_rfl) (by kernel_rfl) (by kernel_rfl) (fun _ _ _ h => h) (Or.inl ⟨by rfl, fun u hu => by obtain ⟨b0, b1, b2⟩ := hu; go_simp⟩) (unhide HS0) ?_
  try simp only [Act.put, List.setIfInBounds_toArray, List.set_cons_zero, List.set_cons_succ]
  refine till_take 1 (v := .pointer (some ⟨s, 0, none⟩)) (some 9) rfl rfl rfl (by kernel_rfl) (by kernel_rfl) (by kernel_rfl) (by kernel_rfl) (fun _ _ _ h => h) (Or.inl ⟨by rfl, fun u hu => by obtain ⟨b0, b1, b2⟩ := hu; go_simp⟩) (unhide HS0) ?_
  try simp only [Act.put, List.setIfInBounds_toArray, List.set_cons_zero, List.set_cons_succ]
  refine till_take 2 (v := .pointer (some ⟨s, 0, none⟩)) (some 10) rfl rfl rfl (by kernel_rfl) (by kernel_rfl) (by kernel_rfl) (by kernel_rfl) (fun _ _ _ h => h) (Or.inl ⟨by rfl, fun u hu => by obtain ⟨b0, b1, b2⟩ := hu; go_simp⟩) (unhide HS0) ?_
  try simp only [Act.put, List.setIfInBounds_toArray, List.set_cons_zero, List.set_cons_succ]
  refine till_take 3 (v := .pointer (some ⟨g, 0, none⟩)) (some 11) rfl rfl rfl (by kernel_rfl) (by kernel_rfl) (by kernel_rfl) (by kernel_rfl) (fun _ _ _ h => h) (Or.inl ⟨by rfl, fun u hu => by obtain ⟨b0, b1, b2⟩ := hu; go_simp⟩) (unhide HS0) ?_
  try simp only [Act.put, List.setIfInBounds_toArray, List.set_cons_zero, List.set_cons_succ]
  refine till_take 4 (v := .string k) (some 12) rfl rfl rfl (by kernel_rfl) (by kernel_rfl) (by kernel_rfl) (by kernel_rfl) (fun _ _ _ h => h) (Or.inl ⟨by rfl, fun u hu => by obtain ⟨b0, b1, b2⟩ := hu; go_simp⟩) (unhide HS0) ?_
  try simp only [Act.put, List.setIfInBounds_toArray, List.set_cons_zero, List.set_cons_succ]
  refine till_two 5 9 (by kernel_rfl) rfl rfl (fun K hK => ?_) (fun K hK => ?_)
  · go_simp
    refine (unhide CG _ D0).mono ?_
    rintro e u1 ⟨rfl, b1⟩
    have D1 : Below w3.heap.size w3 u1 := D0.trans (b1.mono D0.size)
    have HS1 : Hid (u1.cell? ⟨s, 0, none⟩ = some (.pointer (some ⟨g, 0, none⟩)) ∧ u1.cell? ⟨G, 0, none⟩ = some (.pointer (some ⟨s, 0, none⟩)) ∧ u1.cell? ⟨G + 1, 0, none⟩ = some (.string k)) := hide ⟨unhide HC _ D1, by rw [cell_of_row _ G 0 _ _ (0, 0) ((unhide HB).cells D1).1]; rfl, by rw [cell_of_row _ (G + 1) 0 _ _ (0, 0) ((unhide HB).cells D1).2.1]; rfl⟩
    clear b1 CG
    go_wp2_with fail
    refine hK.out _ _ (Or.inr (unhide HS1)) ?_
    clear hK K
    try simp only [Act.put, List.setIfInBounds_toArray, List.set_cons_zero, List.set_cons_succ]
    refine till_take 6 (v := .tuple #[.agg #[.int .i64 x0, .int .i64 x1, .string x2, .slice x3 x4 x5, .slice x6 x7 x8], .bool true]) (some 7) rfl rfl rfl (by kernel_rfl) (by kernel_rfl) (by kernel_rfl) (by kernel_rfl) (fun _ _ _ h => h) (Or.inl ⟨by rfl, fun u hu => by obtain ⟨b0, b1, b2⟩ := hu; go_simp⟩) (unhide HS1) ?_
    try simp only [Act.put, List.setIfInBounds_toArray, List.set_cons_zero, List.set_cons_succ]
    refine till_take 7 (v := .agg #[.int .i64 x0, .int .i64 x1, .string x2, .slice x3 x4 x5, .slice x6 x7 x8]) (some 14) rfl rfl rfl (by kernel_rfl) (by kernel_rfl) (by kernel_rfl) (by kernel_rfl) (fun _ _ _ h => h) (Or.inl ⟨by rfl, fun u hu => by obtain ⟨b0, b1, b2⟩ := hu; go_simp⟩) (unhide HS1) ?_
    try simp only [Act.put, List.setIfInBounds_toArray, List.set_cons_zero, List.set_cons_succ]
    refine till_take 8 (v := .bool true) (some 15) rfl rfl rfl (by kernel_rfl) (by kernel_rfl) (by kernel_rfl) (by kernel_rfl) (fun _ _ _ h => h) (Or.inl ⟨by rfl, fun u hu => by obtain ⟨b0, b1, b2⟩ := hu; go_simp⟩) (unhide HS1) ?_
    try simp only [Act.put, List.setIfInBounds_toArray, List.set_cons_zero, List.set_cons_succ]
    obtain ⟨u2, hu2⟩ : ∃ u2, u1.alloc (.cells #[.int .i64 0, .int .i64 0, .string ⟨#[]⟩, .slice none 0 0, .slice none 0 0] 32) = u2 := ⟨_, rfl⟩
    obtain ⟨bn, hbn⟩ : ∃ bn, u1.heap.size = bn := ⟨_, rfl⟩
    have N2 : u2.heap[bn]? = some (.cells #[.int .i64 0, .int .i64 0, .string ⟨#[]⟩, .slice none 0 0, .slice none 0 0] 32 (0, 0)) := by rw [← hu2, ← hbn]; exact heap_alloc_new u1 _
    have D2 : Below w3.heap.size w3 u2 := by rw [← hu2]; exact D1.alloc D1.size _
    have hlow : w3.heap.size ≤ bn := by rw [← hbn]; exact D1.size
    have HS2 : Hid (u2.cell? ⟨s, 0, none⟩ = some (.pointer (some ⟨g, 0, none⟩)) ∧ u2.cell? ⟨G, 0, none⟩ = some (.pointer (some ⟨s, 0, none⟩)) ∧ u2.cell? ⟨G + 1, 0, none⟩ = some (.string k)) := hide ⟨unhide HC _ D2, by rw [cell_of_row _ G 0 _ _ (0, 0) ((unhide HB).cells D2).1]; rfl, by rw [cell_of_row _ (G + 1) 0 _ _ (0, 0) ((unhide HB).cells D2).2.1]; rfl⟩
    refine till_one 9 (by kernel_rfl) rfl (fun K hK => ?_)
    go_simp
    try rw [hu2]
    try rw [hbn]
    refine hK.out _ _ (Or.inr (unhide HS2)) ?_
    clear hK K HS0 HS1
    try simp only [Act.put, List.setIfInBounds_toArray, List.set_cons_zero, List.set_cons_succ]
    obtain ⟨s1, s2, s3, s4⟩ := setsV (a0 := .int .i64 x0) (a1 := .int .i64 x1) (a2 := .string x2) (a3 := .slice x3 x4 x5) (a4 := .slice x6 x7 x8) N2
    have z0 : u2.cell? ⟨bn, 0, none⟩ = some (.int .i64 0) := by rw [cell_of_row u2 bn 0 _ _ (0, 0) N2]; rfl
    have f0 := frozen_of_row u2 bn 0 _ _ N2
    have z1 : u2.cell? ⟨bn, 1, none⟩ = some (.int .i64 0) := by rw [cell_of_row u2 bn 1 _ _ (0, 0) N2]; rfl
    have f1 := frozen_of_row u2 bn 1 _ _ N2
    have z2 : u2.cell? ⟨bn, 2, none⟩ = some (.string ⟨#[]⟩) := by rw [cell_of_row u2 bn 2 _ _ (0, 0) N2]; rfl
    have f2 := frozen_of_row u2 bn 2 _ _ N2
    have z3 : u2.cell? ⟨bn, 3, none⟩ = some (.slice none 0 0) := by rw [cell_of_row u2 bn 3 _ _ (0, 0) N2]; rfl
    have f3 := frozen_of_row u2 bn 3 _ _ N2
    have z4 : u2.cell? ⟨bn, 4, none⟩ = some (.slice none 0 0) := by rw [cell_of_row u2 bn 4 _ _ (0, 0) N2]; rfl
    have f4 := frozen_of_row u2 bn 4 _ _ N2
    obtain ⟨uu, huu⟩ : ∃ uu, ((((u2.setCell ⟨bn, 0, none⟩ (.int .i64 x0)).setCell ⟨bn, 1, none⟩ (.int .i64 x1)).setCell ⟨bn, 2, none⟩ (.string x2)).setCell ⟨bn, 3, none⟩ (.slice x3 x4 x5)).setCell ⟨bn, 4, none⟩ (.slice x6 x7 x8) = uu := ⟨_, rfl⟩
    rw [huu] at s1 s2 s3
    have D3 : Below w3.heap.size w3 uu := by rw [← huu]; exact s4 _ _ D2 hlow
    have HU := hide (And.intro D3 (And.intro hlow s1))
    have HS3 : Hid (uu.cell? ⟨s, 0, none⟩ = some (.pointer (some ⟨g, 0, none⟩)) ∧ uu.cell? ⟨G, 0, none⟩ = some (.pointer (some ⟨s, 0, none⟩)) ∧ uu.cell? ⟨G + 1, 0, none⟩ = some (.string k)) := hide ⟨unhide HC _ D3, by rw [cell_of_row _ G 0 _ _ (0, 0) ((unhide HB).cells D3).1]; rfl, by rw [cell_of_row _ (G + 1) 0 _ _ (0, 0) ((unhide HB).cells D3).2.1]; rfl⟩
    refine till_one 10 (by kernel_rfl) rfl (fun K hK => ?_)
    clear s1 s2 s3 s4 N2
    go_simp
    try rw [huu]
    refine hK.out _ _ (Or.inr (unhide HS3)) ?_
    clear hK K z0 f0 z1 f1 z2 f2 z3 f3 z4 f4
    try simp only [Act.put, List.setIfInBounds_toArray, List.set_cons_zero, List.set_cons_succ]
    refine till_one 11 (by kernel_rfl) rfl (fun K hK => ?_)
    obtain ⟨b0, b1, b2⟩ := unhide HS3
    go_simp
    refine hK.out _ _ (Or.inl rfl) ?_
    clear hK K b0 b1 b2
    try simp only [Act.put, List.setIfInBounds_toArray, List.set_cons_zero, List.set_cons_succ]
    refine till_done (by kernel_rfl) ?_ _
    clear HS3 HS2 huu D3 hlow D2
    obtain ⟨r1, r2, r3⟩ := (unhide HB).cells (unhide HU).1
    have q0 : uu.cell? ⟨G + 1 + 1, 0, none⟩ = some .nilFunc := by rw [cell_of_row _ (G + 1 + 1) 0 _ _ (0, 0) r3]; rfl
    have q1 : uu.cell? ⟨G + 1 + 1, 1, none⟩ = some (.bool false) := by rw [cell_of_row _ (G + 1 + 1) 1 _ _ (0, 0) r3]; rfl
    have y0 := frozen_of_row uu (G + 1 + 1) 0 _ _ r3
    have y1 := frozen_of_row uu (G + 1 + 1) 1 _ _ r3
    have ql : G + 1 + 1 < uu.heap.size := (Array.getElem?_eq_some_iff.1 r3).1
    clear r1 r2 r3
    go_wp2_with fail
    obtain ⟨e1, e2, e3, e4⟩ := (unhide HB).end (a0 := .func (.func 81) #[] #[.pointer (some ⟨G, 0, none⟩), .pointer (some ⟨G + 1, 0, none⟩), .pointer (some ⟨bn, 0, none⟩)]) (a1 := .bool false) (unhide HU).1
    refine bodyPost_ret (results_cell_row (p := 4) (ty := 73) rfl _ _ (G + 1 + 1) _ _ (0, 0) _ rfl e1 (show Tryz.prog.underlying 73 = some _ from rfl) rfl size_undo) rfl ?_
    obtain ⟨r1, r2, r3⟩ := (unhide HB).cells (unhide HU).1
    have hz := (unhide HB).size
    have hz2 := (unhide HU).1.size
    have hlo := (unhide HB).low
    have hbn := (unhide HU).2.1
    have hbl := (Array.getElem?_eq_some_iff.1 (unhide HU).2.2).1
    have hze : uu.heap.size ≤ _ := Nat.le_of_eq (by simp only [sz_setCell] : uu.heap.size = ((uu.setCell ⟨G + 1 + 1, 0, none⟩ (.func (.func 81) #[] #[.pointer (some ⟨G, 0, none⟩), .pointer (some ⟨G + 1, 0, none⟩), .pointer (some ⟨bn, 0, none⟩)])).setCell ⟨G + 1 + 1, 1, none⟩ (.bool false)).heap.size)
    refine ⟨(_, _, _, _), rfl, e2, hkk, G, G + 1, .inr ⟨by omega, by omega⟩, .inr ⟨by omega, by omega⟩, (e4 G (by omega)).trans r1, (e4 (G + 1) (by omega)).trans r2, bn, (x0, x1, x2, x3, x4, x5, x6, x7, x8), .inr ⟨by omega, by omega⟩, (e4 bn (by omega)).trans (unhide HU).2.2, unhide HE _ e2, hrt, rfl⟩
  · obtain ⟨u1, hu1⟩ : ∃ u1, w3.drew.alloc (.cells #[.int .i64 0, .int .i64 0, .string ⟨#[]⟩, .slice none 0 0, .slice none 0 0] 32) = u1 := ⟨_, rfl⟩
    obtain ⟨bn, hbn⟩ : ∃ bn, w3.heap.size = bn := ⟨_, rfl⟩
    have N1 : u1.heap[bn]? = some (.cells #[.int .i64 0, .int .i64 0, .string ⟨#[]⟩, .slice none 0 0, .slice none 0 0] 32 (0, 0)) := by rw [← hu1, ← hbn]; exact heap_alloc_new w3.drew _
    have D1 : Below w3.heap.size w3 u1 := by rw [← hu1]; exact D0.alloc (Nat.le_refl _) _
    have hlow : w3.heap.size ≤ bn := Nat.le_of_eq hbn
    have HS1 : Hid (u1.cell? ⟨s, 0, none⟩ = some (.pointer (some ⟨g, 0, none⟩)) ∧ u1.cell? ⟨G, 0, none⟩ = some (.pointer (some ⟨s, 0, none⟩)) ∧ u1.cell? ⟨G + 1, 0, none⟩ = some (.string k)) := hide ⟨unhide HC _ D1, by rw [cell_of_row _ G 0 _ _ (0, 0) ((unhide HB).cells D1).1]; rfl, by rw [cell_of_row _ (G + 1) 0 _ _ (0, 0) ((unhide HB).cells D1).2.1]; rfl⟩
    have CG2 := hide (unhide CG _ D1)
    clear CG
    go_simp
    try rw [hu1]
    refine hK.out _ _ (Or.inr (unhide HS1)) ?_
    clear hK K
    try simp only [Act.put, List.setIfInBounds_toArray, List.set_cons_zero, List.set_cons_succ]
    refine till_one 5 (by kernel_rfl) rfl (fun K hK => ?_)
    go_simp
    refine (unhide CG2).mono ?_
    rintro e u2 ⟨rfl, b2⟩
    have N2 := (b2.block bn (Array.getElem?_eq_some_iff.1 N1).1).trans N1
    have D2 : Below w3.heap.size w3 u2 := D1.trans (b2.mono D1.size)
    have HS2 : Hid (u2.cell? ⟨s, 0, none⟩ = some (.pointer (some ⟨g, 0, none⟩)) ∧ u2.cell? ⟨G, 0, none⟩ = some (.pointer (some ⟨s, 0, none⟩)) ∧ u2.cell? ⟨G + 1, 0, none⟩ = some (.string k)) := hide ⟨unhide HC _ D2, by rw [cell_of_row _ G 0 _ _ (0, 0) ((unhide HB).cells D2).1]; rfl, by rw [cell_of_row _ (G + 1) 0 _ _ (0, 0) ((unhide HB).cells D2).2.1]; rfl⟩
    clear b2 CG2 N1
    go_wp2_with fail
    refine hK.out _ _ (Or.inr (unhide HS2)) ?_
    clear hK K HS0 HS1
    try simp only [Act.put, List.setIfInBounds_toArray, List.set_cons_zero, List.set_cons_succ]
    refine till_take 6 (v := .tuple #[.agg #[.int .i64 x0, .int .i64 x1, .string x2, .slice x3 x4 x5, .slice x6 x7 x8], .bool true]) (some 7) rfl rfl rfl (by kernel_rfl) (by kernel_rfl) (by kernel_rfl) (by kernel_rfl) (fun _ _ _ h => h) (Or.inl ⟨by rfl, fun u hu => by obtain ⟨b0, b1, b2⟩ := hu; go_simp⟩) (unhide HS2) ?_
    try simp only [Act.put, List.setIfInBounds_toArray, List.set_cons_zero, List.set_cons_succ]
    refine till_take 7 (v := .agg #[.int .i64 x0, .int .i64 x1, .string x2, .slice x3 x4 x5, .slice x6 x7 x8]) (some 14) rfl rfl rfl (by kernel_rfl) (by kernel_rfl) (by kernel_rfl) (by kernel_rfl) (fun _ _ _ h => h) (Or.inl ⟨by rfl, fun u hu => by obtain ⟨b0, b1, b2⟩ := hu; go_simp⟩) (unhide HS2) ?_
    try simp only [Act.put, List.setIfInBounds_toArray, List.set_cons_zero, List.set_cons_succ]
    refine till_take 8 (v := .bool true) (some 15) rfl rfl rfl (by kernel_rfl) (by kernel_rfl) (by kernel_rfl) (by kernel_rfl) (fun _ _ _ h => h) (Or.inl ⟨by rfl, fun u hu => by obtain ⟨b0, b1, b2⟩ := hu; go_simp⟩) (unhide HS2) ?_
    try simp only [Act.put, List.setIfInBounds_toArray, List.set_cons_zero, List.set_cons_succ]
    obtain ⟨s1, s2, s3, s4⟩ := setsV (a0 := .int .i64 x0) (a1 := .int .i64 x1) (a2 := .string x2) (a3 := .slice x3 x4 x5) (a4 := .slice x6 x7 x8) N2
    have z0 : u2.cell? ⟨bn, 0, none⟩ = some (.int .i64 0) := by rw [cell_of_row u2 bn 0 _ _ (0, 0) N2]; rfl
    have f0 := frozen_of_row u2 bn 0 _ _ N2
    have z1 : u2.cell? ⟨bn, 1, none⟩ = some (.int .i64 0) := by rw [cell_of_row u2 bn 1 _ _ (0, 0) N2]; rfl
    have f1 := frozen_of_row u2 bn 1 _ _ N2
    have z2 : u2.cell? ⟨bn, 2, none⟩ = some (.string ⟨#[]⟩) := by rw [cell_of_row u2 bn 2 _ _ (0, 0) N2]; rfl
    have f2 := frozen_of_row u2 bn 2 _ _ N2
    have z3 : u2.cell? ⟨bn, 3, none⟩ = some (.slice none 0 0) := by rw [cell_of_row u2 bn 3 _ _ (0, 0) N2]; rfl
    have f3 := frozen_of_row u2 bn 3 _ _ N2
    have z4 : u2.cell? ⟨bn, 4, none⟩ = some (.slice none 0 0) := by rw [cell_of_row u2 bn 4 _ _ (0, 0) N2]; rfl
    have f4 := frozen_of_row u2 bn 4 _ _ N2
    obtain ⟨uu, huu⟩ : ∃ uu, ((((u2.setCell ⟨bn, 0, none⟩ (.int .i64 x0)).setCell ⟨bn, 1, none⟩ (.int .i64 x1)).setCell ⟨bn, 2, none⟩ (.string x2)).setCell ⟨bn, 3, none⟩ (.slice x3 x4 x5)).setCell ⟨bn, 4, none⟩ (.slice x6 x7 x8) = uu := ⟨_, rfl⟩
    rw [huu] at s1 s2 s3
    have D3 : Below w3.heap.size w3 uu := by rw [← huu]; exact s4 _ _ D2 hlow
    have HU := hide (And.intro D3 (And.intro hlow s1))
    have HS3 : Hid (uu.cell? ⟨s, 0, none⟩ = some (.pointer (some ⟨g, 0, none⟩)) ∧ uu.cell? ⟨G, 0, none⟩ = some (.pointer (some ⟨s, 0, none⟩)) ∧ uu.cell? ⟨G + 1, 0, none⟩ = some (.string k)) := hide ⟨unhide HC _ D3, by rw [cell_of_row _ G 0 _ _ (0, 0) ((unhide HB).cells D3).1]; rfl, by rw [cell_of_row _ (G + 1) 0 _ _ (0, 0) ((unhide HB).cells D3).2.1]; rfl⟩
    refine till_one 10 (by kernel_rfl) rfl (fun K hK => ?_)
    clear s1 s2 s3 s4 N2
    go_simp
    try rw [huu]
    refine hK.out _ _ (Or.inr (unhide HS3)) ?_
    clear hK K z0 f0 z1 f1 z2 f2 z3 f3 z4 f4
    try simp only [Act.put, List.setIfInBounds_toArray, List.set_cons_zero, List.set_cons_succ]
    refine till_one 11 (by kernel_rfl) rfl (fun K hK => ?_)
    obtain ⟨b0, b1, b2⟩ := unhide HS3
    go_simp
    refine hK.out _ _ (Or.inl rfl) ?_
    clear hK K b0 b1 b2
    try simp only [Act.put, List.setIfInBounds_toArray, List.set_cons_zero, List.set_cons_succ]
    refine till_done (by kernel_rfl) ?_ _
    clear HS3 HS2 huu D3 hlow D2
    obtain ⟨r1, r2, r3⟩ := (unhide HB).cells (unhide HU).1
    have q0 : uu.cell? ⟨G + 1 + 1, 0, none⟩ = some .nilFunc := by rw [cell_of_row _ (G + 1 + 1) 0 _ _ (0, 0) r3]; rfl
    have q1 : uu.cell? ⟨G + 1 + 1, 1, none⟩ = some (.bool false) := by rw [cell_of_row _ (G + 1 + 1) 1 _ _ (0, 0) r3]; rfl
    have y0 := frozen_of_row uu (G + 1 + 1) 0 _ _ r3
    have y1 := frozen_of_row uu (G + 1 + 1) 1 _ _ r3
    have ql : G + 1 + 1 < uu.heap.size := (Array.getElem?_eq_some_iff.1 r3).1
    clear r1 r2 r3
    go_wp2_with fail
    obtain ⟨e1, e2, e3, e4⟩ := (unhide HB).end (a0 := .func (.func 81) #[] #[.pointer (some ⟨G, 0, none⟩), .pointer (some ⟨G + 1, 0, none⟩), .pointer (some ⟨bn, 0, none⟩)]) (a1 := .bool false) (unhide HU).1
    refine bodyPost_ret (results_cell_row (p := 4) (ty := 73) rfl _ _ (G + 1 + 1) _ _ (0, 0) _ rfl e1 (show Tryz.prog.underlying 73 = some _ from rfl) rfl size_undo) rfl ?_
    obtain ⟨r1, r2, r3⟩ := (unhide HB).cells (unhide HU).1
    have hz := (unhide HB).size
    have hz2 := (unhide HU).1.size
    have hlo := (unhide HB).low
    have hbn := (unhide HU).2.1
    have hbl := (Array.getElem?_eq_some_iff.1 (unhide HU).2.2).1
    have hze : uu.heap.size ≤ _ := Nat.le_of_eq (by simp only [sz_setCell] : uu.heap.size = ((uu.setCell ⟨G + 1 + 1, 0, none⟩ (.func (.func 81) #[] #[.pointer (some ⟨G, 0, none⟩), .pointer (some ⟨G + 1, 0, none⟩), .pointer (some ⟨bn, 0, none⟩)])).setCell ⟨G + 1 + 1, 1, none⟩ (.bool false)).heap.size)
    refine ⟨(_, _, _, _), rfl, e2, hkk, G, G + 1, .inr ⟨by omega, by omega⟩, .inr ⟨by omega, by omega⟩, (e4 G (by omega)).trans r1, (e4 (G + 1) (by omega)).trans r2, bn, (x0, x1, x2, x3, x4, x5, x6, x7, x8), .inr ⟨by omega, by omega⟩, (e4 bn (by omega)).trans (unhide HU).2.2, unhide HE _ e2, hrt, rfl⟩

theorem undoing_any {w : World} {V : Nat → Prop} {t : Sx} (h : Sto w V t) (k : ByteArray) (hkk : KeyOk k) :
    Calls Tryz.prog 47 #[.pointer (some ⟨t.s, 0, none⟩), .string k] w fun e w' => ∃ c : ThU, e = .returned (.agg (thU c).toArray) ∧ Below w.heap.size w w' ∧ UOk w' (VUp w w' V) t.s k (c, (lookK t.l k).map Prod.snd) := by
  cases hO : lookK t.l k with
  | none => exact undo_none h k hkk hO
  | some x =>
    obtain ⟨⟨x0, x1, x2, x3, x4, x5, x6, x7, x8⟩, xv⟩ := x
    exact undo_some h k hkk _ _ _ _ _ _ _ _ _ _ hO

end Go.Proofs.YtdaooapfokhfcaaGreat

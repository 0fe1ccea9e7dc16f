/-
  value.Record of more entries than may be; no conditions.
-/
import Derived.Test.YtcopkhmmpamboaaB20
namespace Go.Proofs.Ytcopkhmmpamboaa
open Go.RowKit
set_option linter.unusedVariables false
set_option linter.unusedSimpArgs false

set_option maxRecDepth 100000 in
set_option maxHeartbeats 400000 in
theorem rec_long (al : Option Addr) (cl n : Nat) (w : World) (hn : 2048 < n) :
    Calls Try.prog 8 #[.slice al n cl] w fun e w' => e = .returned (.tuple #[.agg #[.int .i64 0, .int .i64 0, .string ⟨#[]⟩, .slice none 0 0, .slice none 0 0], .int .i64 33]) ∧ Below w.heap.size w w' := by
  obtain ⟨g, hg⟩ : ∃ g, w.heap.size = g := ⟨_, rfl⟩
  have hnl : (2048 : Int) < (n : Int) := by omega
  obtain ⟨w1, hw1⟩ : ∃ w1, w.alloc (.cells #[.int .i64 0, .int .i64 0, .string ⟨#[]⟩, .slice none 0 0, .slice none 0 0] 27) = w1 := ⟨_, rfl⟩
  have HW1 : Hid (w1.heap[g]? = some (.cells #[.int .i64 0, .int .i64 0, .string ⟨#[]⟩, .slice none 0 0, .slice none 0 0] 27 (0, 0)) ∧ Below g w w1) := hide (by
    rw [← hw1, ← hg]
    exact ⟨heap_alloc_new _ _, (Below.refl _ _).alloc (Nat.le_refl _) _⟩)
  obtain ⟨z0, z1, z2, z3, z4⟩ := row_cell (unhide HW1).1
  have fz : ∀ q, w1.frozen? ⟨g, q, none⟩ = false := fun q => frozen_of_row w1 g q _ _ (unhide HW1).1
  have fz0 := fz 0
  have fz1 := fz 1
  have fz2 := fz 2
  have fz3 := fz 3
  have fz4 := fz 4
  clear fz hn
  go_enter Try.func8, Try.ntmps8
  go_wp2_with fail
  have R9 := five_set w1 g 27 _ _ _ _ _ (.int .i64 0) (.int .i64 0) (.string ⟨#[]⟩) (.slice none 0 0) (.slice none 0 0) (unhide HW1).1
  have B9 := five_below (g := g) (unhide HW1).2 (Nat.le_refl _) (.int .i64 0) (.int .i64 0) (.string ⟨#[]⟩) (.slice none 0 0) (.slice none 0 0)
  obtain ⟨w9, hw9⟩ : ∃ w9, (((((w1.setCell ⟨g, 0, none⟩ (.int .i64 0)).setCell ⟨g, 1, none⟩ (.int .i64 0)).setCell ⟨g, 2, none⟩ (.string ⟨#[]⟩)).setCell ⟨g, 3, none⟩ (.slice none 0 0)).setCell ⟨g, 4, none⟩ (.slice none 0 0)) = w9 := ⟨_, rfl⟩
  rw [hw9] at R9 B9 ⊢
  obtain ⟨r0, r1, r2, r3, r4⟩ := row_cell R9
  refine bodyPost_ret (v := .tuple #[.agg #[.int .i64 0, .int .i64 0, .string ⟨#[]⟩, .slice none 0 0, .slice none 0 0], .int .i64 33]) (by simp [results, Try.results8, go_sem, r0, r1, r2, r3, r4]) rfl ?_
  rw [hg]
  exact ⟨rfl, B9⟩
end Go.Proofs.Ytcopkhmmpamboaa

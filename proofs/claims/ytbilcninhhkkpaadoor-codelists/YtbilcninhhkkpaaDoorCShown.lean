/-
  The walk of the statements' shown (layer 8); conditions: the package's variables.
-/
import Derived.Test.YtbilcninhhkkpaaDoorCPut
namespace Go.Proofs.YtbilcninhhkkpaaDoor
open Go.RowKit

theorem conv8 {w : World} {ao : Option Addr} {len cap : Nat} {zs : List Int} (h : Row8 w ao len cap zs) : Sem.run Tryd.prog (convert 34 9 (.slice ao len cap)) w = .ok (.string (strOfNums zs)) w := by
  have hl := h.length
  by_cases h0 : len = 0
  · subst h0
    obtain rfl := List.eq_nil_of_length_eq_zero hl
    have hz : (strOfNums []) = ByteArray.empty := by rfl
    rw [hz, run_convert_bytes_string w 34 9 5 _ 0 cap Tryd.underlying34 Tryd.underlying5 Tryd.underlying9]
    cases ao <;> simp [Conv.bytesToString, loadCells]
    all_goals rfl
  · obtain ⟨b, off, rfl, hc⟩ := h.at (by omega)
    have h1 := conv_row hl hc 0 len cap (by omega) 0
    rw [List.drop_zero, List.take_of_length_le (by omega)] at h1
    exact h1

set_option maxRecDepth 100000 in
set_option maxHeartbeats 400000 in
theorem shown_any (w : World) (h : Tab2 w) : Calls Tryd.prog 13 #[] w fun e w' => e = .returned (.bool true) ∧ Below w.heap.size w w' := by
  obtain ⟨w1, hw1⟩ : ∃ w1, w.alloc (.cells #[.int .u8 7] 5) = w1 := ⟨_, rfl⟩
  have B1 : Below w.heap.size w w1 := by rw [← hw1]; exact (Below.refl _ _).alloc (Nat.le_refl _) _
  have A1 : w1.heap[w.heap.size]? = some (.cells #[.int .u8 7] 5 (0, 0)) := by rw [← hw1]; exact heap_alloc_new _ _
  have CP := hide (put_any (some ⟨w.heap.size, 0, none⟩) 1 1 [7] 1 3 w1 (h.below B1) (row_one A1 (by omega) (by omega)) (by omega))
  rw [show faultI 1 3 = 0 by decide +kernel, if_pos rfl, show insB 1 3 = [1, 3] by decide +kernel] at CP
  have H1 := hide B1
  clear h B1 A1
  go_enter Tryd.func13, Tryd.ntmps13
  go_wp2_with fail
  refine (unhide CP).mono ?_
  rintro e w2 ⟨ao, len, cap, rfl, B2, O2⟩
  have hr := own_row O2 (by decide)
  have hc := conv8 hr.1
  have hs : strOfNums [7, 1, 3] = ⟨#[7, 1, 3]⟩ := by decide +kernel
  rw [List.cons_append, List.nil_append, hs] at hc
  have H2 := hide ((unhide H1).trans (B2.mono (unhide H1).size))
  clear O2 B2 hr hs
  go_wp2_with fail
  go_ret
  exact ⟨rfl, unhide H2⟩
end Go.Proofs.YtbilcninhhkkpaaDoor

/-
  The walk of the statements' shown (layer 3); no conditions.
-/
import Derived.Test.YtfbpaeddfonfbaaDoorVCodeW
namespace Go.Proofs.YtfbpaeddfonfbaaDoor
open Go.RowKit

theorem isV_ab (w : World) : IsV w 0 (.mk 3 0 ⟨#[97, 98]⟩ [] []) (.agg #[.int .i64 3, .int .i64 0, .string ⟨#[97, 98]⟩, .slice none 0 0, .slice none 0 0]) :=
  IsP.of (V := fun _ => []) ⟨by omega, by omega, by decide, fun _ => ⟨rfl, rfl⟩, fun _ => ⟨rfl, rfl⟩, Nat.le_refl _, Nat.le_refl _, by simp, by simp, by simp, (fun a h => by cases h), (fun i h => absurd h (by simp)), (fun a h => by cases h), fun t h => by cases h⟩ (fun i x h => by simp at h)

theorem wt_ab : wt0 (.mk 3 0 ⟨#[97, 98]⟩ [] []) = 3 := by
  have h : rightB (.mk 3 0 ⟨#[97, 98]⟩ [] []) = true := by
    unfold rightB
    simp only [okB, okL, wt, wtL, keysW]
    decide
  unfold wt0
  rw [h]
  simp only [wt, wtL, keysW]
  decide

set_option maxRecDepth 100000 in
set_option maxHeartbeats 400000 in
theorem shown_any (w : World) : Calls Tryd.prog 5 #[] w fun e w' => e = .returned (.bool true) ∧ Below w.heap.size w w' := by
  have CW := hide (weight_code _ _ 0 w (isV_ab w) (Nat.zero_le _))
  rw [wt_ab] at CW
  go_enter Tryd.func5, Tryd.ntmps5
  go_wp2_with fail
  refine (unhide CW).mono ?_
  rintro e w2 ⟨rfl, b2⟩
  have B2 := hide b2
  clear b2 CW
  go_wp2_with fail
  go_ret
  exact ⟨rfl, unhide B2⟩
end Go.Proofs.YtfbpaeddfonfbaaDoor

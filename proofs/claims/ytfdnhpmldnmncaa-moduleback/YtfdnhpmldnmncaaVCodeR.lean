/-
  The walks of Right; no conditions but the form's own reach.
-/
import Derived.Test.YtfdnhpmldnmncaaVMeas
namespace Go.Proofs.Ytfdnhpmldnmncaa
open Go.RowKit

set_option maxRecDepth 100000 in
set_option maxHeartbeats 400000 in
theorem right_code (v : Vl) (x : Value) (B : Nat) (w : World) (hv : IsV w B v x) (hBs : B ≤ w.heap.size) :
    Calls Try.prog 48 #[x] w fun e w' => e = .returned (.bool (rightB v)) ∧ Below w.heap.size w w' := by
  obtain ⟨k', n', s', l', ks', al', ak', cl', ck', hy', hx⟩ := hv.shape
  obtain ⟨ll, hll⟩ : ∃ ll, l'.length = ll := ⟨_, rfl⟩
  obtain ⟨m, hm⟩ : ∃ m, ks'.length = m := ⟨_, rfl⟩
  rw [hll, hm] at hx
  subst hx
  obtain ⟨w1, hw1⟩ : ∃ w1, w.alloc (.cells #[.int .i64 k', .int .i64 n', .string s', .slice al' ll cl', .slice ak' m ck'] 51) = w1 := ⟨_, rfl⟩
  have BX := Box.mk' w (.int .i64 k') (.int .i64 n') (.string s') (.slice al' ll cl') (.slice ak' m ck')
  rw [hw1] at BX
  obtain ⟨c0, c1, c2, c3, c4⟩ := row_cell BX.row
  have z1 := BX.size
  have HB := hide BX.below
  have CM := hide (measure_any v _ B w1 (hv.mono (BX.below.mono hBs)) (by omega))
  have HRB : Hid (decide (0 < wt0 v) = rightB v) := hide (by
    unfold wt0
    cases h : rightB v with
    | false => simp
    | true => have := wt_pos v; simp [this])
  clear BX hv hy'
  go_enter Try.func48, Try.ntmps48
  go_wp2_with fail
  refine (unhide CM).mono ?_
  rintro e w2 ⟨rfl, b2⟩
  have B2 := hide b2
  clear b2 CM
  go_wp2_with fail
  go_ret
  exact ⟨by rw [← unhide HRB]; rfl, (unhide HB).trans ((unhide B2).mono (by omega))⟩

end Go.Proofs.Ytfdnhpmldnmncaa

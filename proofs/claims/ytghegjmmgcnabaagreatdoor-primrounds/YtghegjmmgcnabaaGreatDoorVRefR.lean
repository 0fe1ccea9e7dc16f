/-
  The walks of the document's Right, Weight, deep, Depth; no conditions but the form's own reach.
-/
import Derived.Test.YtghegjmmgcnabaaGreatDoorVWeigh2
namespace Go.Proofs.YtghegjmmgcnabaaGreatDoor
open Go.RowKit

theorem weigh_any : ∀ b, WeighAt b
  | 0 => weigh_zero
  | b + 1 => weigh_step b (weigh_any b)

theorem wgh_right (v : Vl) : (wgh 8 v 0 ≤ 2048 ↔ rightB v = true) ∧ (rightB v = true → wgh 8 v 0 = wt v) ∧ (rightB v = false → wgh 8 v 0 = 2049) := by
  have h0 : rightB v = (okB 8 v && decide (0 + wt v ≤ 2048)) := by unfold rightB; rw [Nat.zero_add]
  have h1 : rightB v = true → wgh 8 v 0 = wt v := by
    intro h
    rw [h0] at h
    unfold wgh
    rw [if_pos h, Nat.zero_add]
  have h2 : rightB v = false → wgh 8 v 0 = 2049 := by
    intro h
    rw [h0] at h
    unfold wgh
    rw [if_neg (by rw [h]; simp)]
  refine ⟨⟨fun h => ?_, fun h => ?_⟩, h1, h2⟩
  · cases hr : rightB v with
    | true => rfl
    | false => rw [h2 hr] at h; omega
  · rw [h1 h]
    unfold rightB at h
    rw [Bool.and_eq_true, decide_eq_true_eq] at h
    exact h.2

set_option maxRecDepth 100000 in
set_option maxHeartbeats 400000 in
theorem right_ref (v : Vl) (x : Value) (B : Nat) (w : World) (hv : IsV w B v x) (hBs : B ≤ w.heap.size) :
    Calls Tryz.prog 26 #[x] w fun e w' => e = .returned (.bool (rightB v)) ∧ Below w.heap.size w w' := by
  obtain ⟨k', n', s', l', ks', al', ak', cl', ck', hy', hx⟩ := hv.shape
  obtain ⟨ll, hll⟩ : ∃ ll, l'.length = ll := ⟨_, rfl⟩
  obtain ⟨m, hm⟩ : ∃ m, ks'.length = m := ⟨_, rfl⟩
  rw [hll, hm] at hx
  subst hx
  obtain ⟨w1, hw1⟩ : ∃ w1, w.alloc (.cells #[.int .i64 k', .int .i64 n', .string s', .slice al' ll cl', .slice ak' m ck'] 25) = w1 := ⟨_, rfl⟩
  have BX := Box.mk' w (.int .i64 k') (.int .i64 n') (.string s') (.slice al' ll cl') (.slice ak' m ck')
  rw [hw1] at BX
  obtain ⟨c0, c1, c2, c3, c4⟩ := row_cell BX.row
  have z1 := BX.size
  have HB := hide BX.below
  have CW := hide (weigh_any 8 v _ 0 0 B w1 (by omega) (hv.mono (BX.below.mono hBs)) (by omega) (by omega))
  have HR : Hid (decide ((wgh 8 v 0 : Int) ≤ 2048) = rightB v) := hide (by
    cases hr : rightB v with
    | true => exact decide_eq_true (by have := (wgh_right v).1.2 hr; omega)
    | false => exact decide_eq_false (by rw [(wgh_right v).2.2 hr]; omega))
  obtain ⟨W, hW⟩ : ∃ W, wgh 8 v 0 = W := ⟨_, rfl⟩
  rw [hW] at CW HR
  clear BX hv hy' hW
  go_enter Tryz.func26, Tryz.ntmps26
  go_wp2_with fail
  refine (unhide CW).mono ?_
  rintro e w2 ⟨rfl, b2⟩
  have B2 := hide b2
  clear b2 CW
  go_wp2_with fail
  go_ret
  exact ⟨by rw [← unhide HR]; rfl, (unhide HB).trans ((unhide B2).mono (by omega))⟩

end Go.Proofs.YtghegjmmgcnabaaGreatDoor

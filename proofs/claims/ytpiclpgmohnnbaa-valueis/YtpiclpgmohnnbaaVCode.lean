/-
  The walks of Right, Weight, Depth, and of the statements' shown; no conditions but the form's own reach.
-/
import Derived.Test.YtpiclpgmohnnbaaVMeas
namespace Go.Proofs.Ytpiclpgmohnnbaa
open Go.RowKit

set_option maxRecDepth 100000 in
set_option maxHeartbeats 400000 in
theorem right_code (v : Vl) (x : Value) (B : Nat) (w : World) (hv : IsV w B v x) (hBs : B ≤ w.heap.size) :
    Calls Try.prog 8 #[x] w fun e w' => e = .returned (.bool (rightB v)) ∧ Below w.heap.size w w' := by
  obtain ⟨k', n', s', l', ks', al', ak', cl', ck', hy', hx⟩ := hv.shape
  obtain ⟨ll, hll⟩ : ∃ ll, l'.length = ll := ⟨_, rfl⟩
  obtain ⟨m, hm⟩ : ∃ m, ks'.length = m := ⟨_, rfl⟩
  rw [hll, hm] at hx
  subst hx
  obtain ⟨w1, hw1⟩ : ∃ w1, w.alloc (.cells #[.int .i64 k', .int .i64 n', .string s', .slice al' ll cl', .slice ak' m ck'] 25) = w1 := ⟨_, rfl⟩
  have BX := Box.mk' w (.int .i64 k') (.int .i64 n') (.string s') (.slice al' ll cl') (.slice ak' m ck')
  rw [hw1] at BX
  obtain ⟨c0, c1, c2, c3, c4⟩ := row_cell BX.row
  have z1 := BX.size
  have HB := hide BX.below
  have CM := hide (measure_any v _ B w1 (hv.mono (BX.below.mono hBs)) (by omega))
  have HRB : Hid (decide (0 < wt0 v) = rightB v) := hide (by
    unfold wt0
    cases h : rightB v with
    | false => simp
    | true => have := wt_pos v; simp [this])
  clear BX hv hy'
  go_enter Try.func8, Try.ntmps8
  go_wp2_with fail
  refine (unhide CM).mono ?_
  rintro e w2 ⟨rfl, b2⟩
  have B2 := hide b2
  clear b2 CM
  go_wp2_with fail
  go_ret
  exact ⟨by rw [← unhide HRB]; rfl, (unhide HB).trans ((unhide B2).mono (by omega))⟩

set_option maxRecDepth 100000 in
set_option maxHeartbeats 400000 in
theorem weight_code (v : Vl) (x : Value) (B : Nat) (w : World) (hv : IsV w B v x) (hBs : B ≤ w.heap.size) :
    Calls Try.prog 9 #[x] w fun e w' => e = .returned (.int .i64 (wt0 v : Int)) ∧ Below w.heap.size w w' := by
  obtain ⟨k', n', s', l', ks', al', ak', cl', ck', hy', hx⟩ := hv.shape
  obtain ⟨ll, hll⟩ : ∃ ll, l'.length = ll := ⟨_, rfl⟩
  obtain ⟨m, hm⟩ : ∃ m, ks'.length = m := ⟨_, rfl⟩
  rw [hll, hm] at hx
  subst hx
  obtain ⟨w1, hw1⟩ : ∃ w1, w.alloc (.cells #[.int .i64 k', .int .i64 n', .string s', .slice al' ll cl', .slice ak' m ck'] 25) = w1 := ⟨_, rfl⟩
  have BX := Box.mk' w (.int .i64 k') (.int .i64 n') (.string s') (.slice al' ll cl') (.slice ak' m ck')
  rw [hw1] at BX
  obtain ⟨c0, c1, c2, c3, c4⟩ := row_cell BX.row
  have z1 := BX.size
  have HB := hide BX.below
  have CM := hide (measure_any v _ B w1 (hv.mono (BX.below.mono hBs)) (by omega))
  clear BX hv hy'
  go_enter Try.func9, Try.ntmps9
  go_wp2_with fail
  refine (unhide CM).mono ?_
  rintro e w2 ⟨rfl, b2⟩
  have B2 := hide b2
  clear b2 CM
  go_wp2_with fail
  go_ret
  exact ⟨rfl, (unhide HB).trans ((unhide B2).mono (by omega))⟩

set_option maxRecDepth 100000 in
set_option maxHeartbeats 400000 in
theorem depth_code (v : Vl) (x : Value) (B : Nat) (w : World) (hv : IsV w B v x) (hBs : B ≤ w.heap.size) :
    Calls Try.prog 10 #[x] w fun e w' => e = .returned (.int .i64 (dep0 v : Int)) ∧ Below w.heap.size w w' := by
  obtain ⟨k', n', s', l', ks', al', ak', cl', ck', hy', hx⟩ := hv.shape
  obtain ⟨ll, hll⟩ : ∃ ll, l'.length = ll := ⟨_, rfl⟩
  obtain ⟨m, hm⟩ : ∃ m, ks'.length = m := ⟨_, rfl⟩
  rw [hll, hm] at hx
  subst hx
  obtain ⟨w1, hw1⟩ : ∃ w1, w.alloc (.cells #[.int .i64 k', .int .i64 n', .string s', .slice al' ll cl', .slice ak' m ck'] 25) = w1 := ⟨_, rfl⟩
  have BX := Box.mk' w (.int .i64 k') (.int .i64 n') (.string s') (.slice al' ll cl') (.slice ak' m ck')
  rw [hw1] at BX
  obtain ⟨c0, c1, c2, c3, c4⟩ := row_cell BX.row
  have z1 := BX.size
  have HB := hide BX.below
  have CM := hide (measure_any v _ B w1 (hv.mono (BX.below.mono hBs)) (by omega))
  clear BX hv hy'
  go_enter Try.func10, Try.ntmps10
  go_wp2_with fail
  refine (unhide CM).mono ?_
  rintro e w2 ⟨rfl, b2⟩
  have B2 := hide b2
  clear b2 CM
  go_wp2_with fail
  go_ret
  exact ⟨rfl, (unhide HB).trans ((unhide B2).mono (by omega))⟩

theorem isV_ab (w : World) : IsV w 0 (.mk 3 0 ⟨#[97, 98]⟩ [] []) (.agg #[.int .i64 3, .int .i64 0, .string ⟨#[97, 98]⟩, .slice none 0 0, .slice none 0 0]) :=
  IsV.mk 3 0 ⟨#[97, 98]⟩ [] [] none none 0 0 (fun _ => []) (by omega) (by omega) (by decide) (fun _ => ⟨rfl, rfl⟩) (fun _ => ⟨rfl, rfl⟩) (Nat.le_refl _) (Nat.le_refl _) (by omega) (by omega) (fun a h => by cases h) (fun i h => absurd h (by simp)) (fun a h => by cases h) (fun t h => by cases h) (fun i x h => by simp at h)

theorem wt_ab : wt0 (.mk 3 0 ⟨#[97, 98]⟩ [] []) = 3 := by
  have h : rightB (.mk 3 0 ⟨#[97, 98]⟩ [] []) = true := by decide
  unfold wt0
  rw [h]
  rfl

set_option maxRecDepth 100000 in
set_option maxHeartbeats 400000 in
theorem shown_any (w : World) : Calls Try.prog 7 #[] w fun e w' => e = .returned (.bool true) ∧ Below w.heap.size w w' := by
  have CW := hide (weight_code _ _ 0 w (isV_ab w) (Nat.zero_le _))
  rw [wt_ab] at CW
  go_enter Try.func7, Try.ntmps7
  go_wp2_with fail
  refine (unhide CW).mono ?_
  rintro e w2 ⟨rfl, b2⟩
  have B2 := hide b2
  clear b2 CW
  go_wp2_with fail
  go_ret
  exact ⟨rfl, unhide B2⟩
end Go.Proofs.Ytpiclpgmohnnbaa

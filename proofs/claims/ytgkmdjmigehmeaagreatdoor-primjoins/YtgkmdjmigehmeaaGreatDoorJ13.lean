/-
  The walk of Compare; no conditions but the form's own reach.
-/
import Derived.Test.YtgkmdjmigehmeaaGreatDoorJ12
import Derived.Test.YtgkmdjmigehmeaaGreatDoorJ06
set_option linter.unusedVariables false
set_option linter.unusedSimpArgs false
namespace Go.Proofs.YtgkmdjmigehmeaaGreatDoor
open Go.RowKit

def ord0 (v v' : Vl) : Int := if (rightB v && rightB v') = true then ord v v' else 0

theorem ord0_self (v : Vl) : ord0 v v = 0 := by unfold ord0; split <;> simp [ord_self]

theorem right_ok {v : Vl} (h : rightB v = true) : okB 8 v = true := by
  unfold rightB at h
  rw [Bool.and_eq_true] at h
  exact h.1

set_option maxRecDepth 100000 in
set_option maxHeartbeats 400000 in
theorem compare_code (v v' : Vl) (x x' : Value) (B : Nat) (w : World) (hv : IsV w B v x) (hv' : IsV w B v' x') (hBs : B ≤ w.heap.size) :
    Calls Tryz.prog 127 #[x, x'] w fun e w' => e = .returned (.int .i64 (ord0 v v')) ∧ Below w.heap.size w w' := by
  obtain ⟨k, n, s, l, ks, al, ak, cl, ck, _, hx⟩ := hv.shape
  obtain ⟨k', n', s', l', ks', al', ak', cl', ck', _, hx'⟩ := hv'.shape
  obtain ⟨m, hm⟩ : ∃ m, ks.length = m := ⟨_, rfl⟩
  obtain ⟨ln, hln⟩ : ∃ ln, l.length = ln := ⟨_, rfl⟩
  obtain ⟨m', hm'⟩ : ∃ m', ks'.length = m' := ⟨_, rfl⟩
  obtain ⟨ln', hln'⟩ : ∃ ln', l'.length = ln' := ⟨_, rfl⟩
  rw [hm, hln] at hx
  rw [hm', hln'] at hx'
  subst hx
  subst hx'
  have TW := TwoO.mk' w 25 #[.int .i64 k, .int .i64 n, .string s, .slice al ln cl, .slice ak m ck] #[.int .i64 k', .int .i64 n', .string s', .slice al' ln' cl', .slice ak' m' ck']
  obtain ⟨w2, hw2⟩ : ∃ w2, (w.alloc (.cells #[.int .i64 k, .int .i64 n, .string s, .slice al ln cl, .slice ak m ck] 25)).alloc (.cells #[.int .i64 k', .int .i64 n', .string s', .slice al' ln' cl', .slice ak' m' ck'] 25) = w2 := ⟨_, rfl⟩
  rw [hw2] at TW
  obtain ⟨g, hg⟩ : ∃ g, w.heap.size = g := ⟨_, rfl⟩
  rw [hg] at TW
  have HT := hide TW
  have HV : Hid (∀ u, Below w2.heap.size w2 u → IsV u B v (.agg #[.int .i64 k, .int .i64 n, .string s, .slice al ln cl, .slice ak m ck]) ∧ IsV u B v' (.agg #[.int .i64 k', .int .i64 n', .string s', .slice al' ln' cl', .slice ak' m' ck']) ∧ B ≤ u.heap.size) :=
    hide (fun u hu => by
      have h1 : Below B w u := (TW.below.mono (by omega)).trans (hu.mono (by have := TW.size; omega))
      exact ⟨hv.mono h1, hv'.mono h1, by have := hu.size; have := TW.size; omega⟩)
  have HB : Hid (∀ u, Below w2.heap.size w2 u → Below w.heap.size w u) := hide (fun u hu => TW.below.trans (hu.mono (by have := TW.size; omega)))
  clear TW hv hv' hm hln hm' hln'
  have CR := fun u hu => hide (right_code v _ B u (unhide HV u hu).1 (unhide HV u hu).2.2)
  have CR' := fun u hu => hide (right_code v' _ B u (unhide HV u hu).2.1 (unhide HV u hu).2.2)
  have CO := fun h h' u hu => hide (order_any 8 v v' _ _ B u (right_ok h) (right_ok h') (unhide HV u hu).1 (unhide HV u hu).2.1 (unhide HV u hu).2.2)
  have X0 : Hid (Below w2.heap.size w2 w2) := hide (Below.refl _ _)
  obtain ⟨r0, r1⟩ := (unhide HT).later (unhide X0)
  obtain ⟨c0, c1, c2, c3, c4⟩ := row_cell r0
  obtain ⟨d0, d1, d2, d3, d4⟩ := row_cell r1
  clear r0 r1
  cases hR : rightB v with
  | false =>
    have HG : Hid (ord0 v v' = 0) := hide (by simp [ord0, hR])
    rw [hR] at CR
    clear hR CO
    go_enter Tryz.func127, Tryz.ntmps127
    go_wp2_with fail
    refine (unhide (CR w2 (unhide X0))).mono ?_
    rintro e u1 ⟨rfl, b1⟩
    have X1 : Hid (Below w2.heap.size w2 u1) := hide b1
    clear b1 CR
    go_wp2_with fail
    go_ret
    exact ⟨by rw [unhide HG]; rfl, by first | exact unhide HB _ (unhide X1) | (rw [← hg]; exact unhide HB _ (unhide X1))⟩
  | true =>
    rw [hR] at CR
    cases hR' : rightB v' with
    | false =>
      have HG : Hid (ord0 v v' = 0) := hide (by simp [ord0, hR'])
      rw [hR'] at CR'
      clear hR hR' CO
      go_enter Tryz.func127, Tryz.ntmps127
      go_wp2_with fail
      refine (unhide (CR w2 (unhide X0))).mono ?_
      rintro e u1 ⟨rfl, b1⟩
      have X1 : Hid (Below w2.heap.size w2 u1) := hide ((unhide X0).trans (b1.mono (unhide X0).size))
      clear c0 c1 c2 c3 c4 d0 d1 d2 d3 d4
      obtain ⟨r0, r1⟩ := (unhide HT).later (unhide X1)
      obtain ⟨c0, c1, c2, c3, c4⟩ := row_cell r0
      obtain ⟨d0, d1, d2, d3, d4⟩ := row_cell r1
      clear r0 r1
      clear b1
      go_wp2_with fail
      refine (unhide (CR' u1 (unhide X1))).mono ?_
      rintro e u2 ⟨rfl, b2⟩
      have X2 : Hid (Below w2.heap.size w2 u2) := hide ((unhide X1).trans (b2.mono (unhide X1).size))
      clear c0 c1 c2 c3 c4 d0 d1 d2 d3 d4
      obtain ⟨r0, r1⟩ := (unhide HT).later (unhide X2)
      obtain ⟨c0, c1, c2, c3, c4⟩ := row_cell r0
      obtain ⟨d0, d1, d2, d3, d4⟩ := row_cell r1
      clear r0 r1
      clear b2
      go_wp2_with fail
      go_ret
      exact ⟨by rw [unhide HG]; rfl, by first | exact unhide HB _ (unhide X2) | (rw [← hg]; exact unhide HB _ (unhide X2))⟩
    | true =>
      have HG : Hid (ord0 v v' = ord v v') := hide (by simp [ord0, hR, hR'])
      rw [hR'] at CR'
      have C3 := CO hR hR'
      obtain ⟨R, hRR⟩ : ∃ R, ord v v' = R := ⟨_, rfl⟩
      rw [hRR] at C3 HG
      clear hR hR' CO hRR
      go_enter Tryz.func127, Tryz.ntmps127
      go_wp2_with fail
      refine (unhide (CR w2 (unhide X0))).mono ?_
      rintro e u1 ⟨rfl, b1⟩
      have X1 : Hid (Below w2.heap.size w2 u1) := hide ((unhide X0).trans (b1.mono (unhide X0).size))
      clear c0 c1 c2 c3 c4 d0 d1 d2 d3 d4
      obtain ⟨r0, r1⟩ := (unhide HT).later (unhide X1)
      obtain ⟨c0, c1, c2, c3, c4⟩ := row_cell r0
      obtain ⟨d0, d1, d2, d3, d4⟩ := row_cell r1
      clear r0 r1
      clear b1
      go_wp2_with fail
      refine (unhide (CR' u1 (unhide X1))).mono ?_
      rintro e u2 ⟨rfl, b2⟩
      have X2 : Hid (Below w2.heap.size w2 u2) := hide ((unhide X1).trans (b2.mono (unhide X1).size))
      clear c0 c1 c2 c3 c4 d0 d1 d2 d3 d4
      obtain ⟨r0, r1⟩ := (unhide HT).later (unhide X2)
      obtain ⟨c0, c1, c2, c3, c4⟩ := row_cell r0
      obtain ⟨d0, d1, d2, d3, d4⟩ := row_cell r1
      clear r0 r1
      clear b2
      go_wp2_with fail
      refine (unhide (C3 u2 (unhide X2))).mono ?_
      rintro e u3 ⟨rfl, b3⟩
      have X3 : Hid (Below w2.heap.size w2 u3) := hide ((unhide X2).trans (b3.mono (unhide X2).size))
      clear c0 c1 c2 c3 c4 d0 d1 d2 d3 d4
      obtain ⟨r0, r1⟩ := (unhide HT).later (unhide X3)
      obtain ⟨c0, c1, c2, c3, c4⟩ := row_cell r0
      obtain ⟨d0, d1, d2, d3, d4⟩ := row_cell r1
      clear r0 r1
      clear b3
      go_wp2_with fail
      go_ret
      exact ⟨by rw [unhide HG]; rfl, by first | exact unhide HB _ (unhide X3) | (rw [← hg]; exact unhide HB _ (unhide X3))⟩
end Go.Proofs.YtgkmdjmigehmeaaGreatDoor

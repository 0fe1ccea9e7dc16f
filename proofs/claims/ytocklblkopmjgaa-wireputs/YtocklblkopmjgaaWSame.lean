/-
  The walk of same: are two values the same, the second one of few parts? no conditions but the form's own reach.
-/
import Derived.Test.YtocklblkopmjgaaWAlike
namespace Go.Proofs.Ytocklblkopmjgaa
open Go.RowKit

/-- the same, or not looked at -/
def smB (a b : Vl) : Bool := !(fewB b) || sameB a b

set_option maxRecDepth 100000 in
set_option maxHeartbeats 400000 in
theorem same_any (v v' : Vl) (x x' : Value) (B : Nat) (w : World) (hv : IsV w B v x) (hv' : IsV w B v' x') (hBs : B ≤ w.heap.size) :
    Calls Try.prog 26 #[x, x'] w fun e w' => e = .returned (.bool (smB v v')) ∧ Below w.heap.size w w' := by
  obtain ⟨k, n, s, l, ks, al, ak, cl, ck, hvv, hx⟩ := hv.shape
  clear hvv
  obtain ⟨k', n', s', l', ks', al', ak', cl', ck', hvv', hx'⟩ := hv'.shape
  clear hvv'
  obtain ⟨m, hm⟩ : ∃ m, ks.length = m := ⟨_, rfl⟩
  obtain ⟨ln, hln⟩ : ∃ ln, l.length = ln := ⟨_, rfl⟩
  obtain ⟨m', hm'⟩ : ∃ m', ks'.length = m' := ⟨_, rfl⟩
  obtain ⟨ln', hln'⟩ : ∃ ln', l'.length = ln' := ⟨_, rfl⟩
  rw [hm, hln] at hx
  rw [hm', hln'] at hx'
  subst hx
  subst hx'
  have TW := Two.mk' w 27 #[.int .i64 k, .int .i64 n, .string s, .slice al ln cl, .slice ak m ck] #[.int .i64 k', .int .i64 n', .string s', .slice al' ln' cl', .slice ak' m' ck']
  obtain ⟨w2, hw2⟩ : ∃ w2, (w.alloc (.cells #[.int .i64 k, .int .i64 n, .string s, .slice al ln cl, .slice ak m ck] 27)).alloc (.cells #[.int .i64 k', .int .i64 n', .string s', .slice al' ln' cl', .slice ak' m' ck'] 27) = w2 := ⟨_, rfl⟩
  rw [hw2] at TW
  obtain ⟨g, hg⟩ : ∃ g, w.heap.size = g := ⟨_, rfl⟩
  rw [hg] at TW
  have HT := hide TW
  have HV : Hid (∀ u, Below w2.heap.size w2 u → IsV u B v (.agg #[.int .i64 k, .int .i64 n, .string s, .slice al ln cl, .slice ak m ck]) ∧ IsV u B v' (.agg #[.int .i64 k', .int .i64 n', .string s', .slice al' ln' cl', .slice ak' m' ck']) ∧ B ≤ u.heap.size) :=
    hide (fun u hu => by
      have h1 : Below B w u := (TW.below.mono (by omega)).trans (hu.mono (by have := TW.size; omega))
      exact ⟨hv.mono h1, hv'.mono h1, by have := hu.size; have := TW.size; omega⟩)
  have HB : Hid (∀ u, Below w2.heap.size w2 u → Below w.heap.size w u) := hide (fun u hu => TW.below.trans (hu.mono (by have := TW.size; omega)))
  clear TW hv hv' hm hln hm' hln'
  have CF := fun u hu => hide (few_any v' _ B u (unhide HV u hu).2.1 (unhide HV u hu).2.2)
  have CA := fun u hu => hide (alike_any (dep v) v v' _ _ B u (Nat.le_refl _) (unhide HV u hu).1 (unhide HV u hu).2.1 (unhide HV u hu).2.2)
  have X0 : Hid (Below w2.heap.size w2 w2) := hide (Below.refl _ _)
  obtain ⟨r0, r1⟩ := (unhide HT).later (unhide X0)
  obtain ⟨c0, c1, c2, c3, c4⟩ := row_cell r0
  obtain ⟨d0, d1, d2, d3, d4⟩ := row_cell r1
  clear r0 r1
  cases hR : fewB v' with
  | false =>
    have HG : Hid (smB v v' = true) := hide (by simp [smB, hR])
    rw [hR] at CF
    clear hR CA
    go_enter Try.func26, Try.ntmps26
    go_wp2_with fail
    refine (unhide (CF w2 (unhide X0))).mono ?_
    rintro e u1 ⟨rfl, b1⟩
    have X1 : Hid (Below w2.heap.size w2 u1) := hide ((unhide X0).trans (b1.mono (unhide X0).size))
    clear c0 c1 c2 c3 c4 d0 d1 d2 d3 d4
    obtain ⟨r0, r1⟩ := (unhide HT).later (unhide X1)
    obtain ⟨c0, c1, c2, c3, c4⟩ := row_cell r0
    obtain ⟨d0, d1, d2, d3, d4⟩ := row_cell r1
    clear r0 r1
    clear b1
    go_wp2_with fail
    go_ret
    exact ⟨by rw [unhide HG]; rfl, by first | exact unhide HB _ (unhide X1) | (rw [← hg]; exact unhide HB _ (unhide X1))⟩
  | true =>
    have HG : Hid (smB v v' = sameB v v') := hide (by simp [smB, hR])
    rw [hR] at CF
    obtain ⟨R, hRR⟩ : ∃ R, sameB v v' = R := ⟨_, rfl⟩
    rw [hRR] at CA HG
    clear hR hRR
    go_enter Try.func26, Try.ntmps26
    go_wp2_with fail
    refine (unhide (CF w2 (unhide X0))).mono ?_
    rintro e u1 ⟨rfl, b1⟩
    have X1 : Hid (Below w2.heap.size w2 u1) := hide ((unhide X0).trans (b1.mono (unhide X0).size))
    clear c0 c1 c2 c3 c4 d0 d1 d2 d3 d4
    obtain ⟨r0, r1⟩ := (unhide HT).later (unhide X1)
    obtain ⟨c0, c1, c2, c3, c4⟩ := row_cell r0
    obtain ⟨d0, d1, d2, d3, d4⟩ := row_cell r1
    clear r0 r1
    clear b1
    go_wp2_with fail
    refine (unhide (CA u1 (unhide X1))).mono ?_
    rintro e u2 ⟨rfl, b2⟩
    have X2 : Hid (Below w2.heap.size w2 u2) := hide ((unhide X1).trans (b2.mono (unhide X1).size))
    clear c0 c1 c2 c3 c4 d0 d1 d2 d3 d4
    obtain ⟨r0, r1⟩ := (unhide HT).later (unhide X2)
    obtain ⟨c0, c1, c2, c3, c4⟩ := row_cell r0
    obtain ⟨d0, d1, d2, d3, d4⟩ := row_cell r1
    clear r0 r1
    clear b2
    go_wp2_with fail
    go_ret
    exact ⟨by rw [unhide HG]; rfl, by first | exact unhide HB _ (unhide X2) | (rw [← hg]; exact unhide HB _ (unhide X2))⟩
end Go.Proofs.Ytocklblkopmjgaa

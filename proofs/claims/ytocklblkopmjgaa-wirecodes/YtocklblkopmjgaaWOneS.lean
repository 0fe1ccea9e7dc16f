/-
  The walk of same: are two values the same, the second one of few parts? no conditions but the form's own reach.
  A plain value in any memory; the bytes of an integer are read back; no conditions.
-/
import Derived.Test.YtocklblkopmjgaaWAlike
import Derived.Test.YtocklblkopmjgaaWDec
import Derived.Test.YtocklblkopmjgaaWPut
namespace Go.Proofs.Ytocklblkopmjgaa
open Go.RowKit

/-- the same, or not looked at -/
def smB (a b : Vl) : Bool := !(fewB b) || sameB a b

set_option maxRecDepth 100000 in
set_option maxHeartbeats 400000 in
theorem same_any (v v' : Vl) (x x' : Value) (B : Nat) (w : World) (hv : IsV w B v x) (hv' : IsV w B v' x') (hBs : B ≤ w.heap.size) :
    Calls Try.prog 26 #[x, x'] w fun e w' => e = .returned (.bool (smB v v')) ∧ Below w.heap.size w w' := by
  obtain ⟨k, n, s, l, ks, al, ak, cl, ck, hvv, hx⟩ := hv.shape
  clear hvv
  obtain ⟨k', n', s', l', ks', al', ak', cl', ck', hvv', hx'⟩ := hv'.shape
  clear hvv'
  obtain ⟨m, hm⟩ : ∃ m, ks.length = m := ⟨_, rfl⟩
  obtain ⟨ln, hln⟩ : ∃ ln, l.length = ln := ⟨_, rfl⟩
  obtain ⟨m', hm'⟩ : ∃ m', ks'.length = m' := ⟨_, rfl⟩
  obtain ⟨ln', hln'⟩ : ∃ ln', l'.length = ln' := ⟨_, rfl⟩
  rw [hm, hln] at hx
  rw [hm', hln'] at hx'
  subst hx
  subst hx'
  have TW := Two.mk' w 27 #[.int .i64 k, .int .i64 n, .string s, .slice al ln cl, .slice ak m ck] #[.int .i64 k', .int .i64 n', .string s', .slice al' ln' cl', .slice ak' m' ck']
  obtain ⟨w2, hw2⟩ : ∃ w2, (w.alloc (.cells #[.int .i64 k, .int .i64 n, .string s, .slice al ln cl, .slice ak m ck] 27)).alloc (.cells #[.int .i64 k', .int .i64 n', .string s', .slice al' ln' cl', .slice ak' m' ck'] 27) = w2 := ⟨_, rfl⟩
  rw [hw2] at TW
  obtain ⟨g, hg⟩ : ∃ g, w.heap.size = g := ⟨_, rfl⟩
  rw [hg] at TW
  have HT := hide TW
  have HV : Hid (∀ u, Below w2.heap.size w2 u → IsV u B v (.agg #[.int .i64 k, .int .i64 n, .string s, .slice al ln cl, .slice ak m ck]) ∧ IsV u B v' (.agg #[.int .i64 k', .int .i64 n', .string s', .slice al' ln' cl', .slice ak' m' ck']) ∧ B ≤ u.heap.size) :=
    hide (fun u hu => by
      have h1 : Below B w u := (TW.below.mono (by omega)).trans (hu.mono (by have := TW.size; omega))
      exact ⟨hv.mono h1, hv'.mono h1, by have := hu.size; have := TW.size; omega⟩)
  have HB : Hid (∀ u, Below w2.heap.size w2 u → Below w.heap.size w u) := hide (fun u hu => TW.below.trans (hu.mono (by have := TW.size; omega)))
  clear TW hv hv' hm hln hm' hln'
  have CF := fun u hu => hide (few_any v' _ B u (unhide HV u hu).2.1 (unhide HV u hu).2.2)
  have CA := fun u hu => hide (alike_any (dep v) v v' _ _ B u (Nat.le_refl _) (unhide HV u hu).1 (unhide HV u hu).2.1 (unhide HV u hu).2.2)
  have X0 : Hid (Below w2.heap.size w2 w2) := hide (Below.refl _ _)
  obtain ⟨r0, r1⟩ := (unhide HT).later (unhide X0)
  obtain ⟨c0, c1, c2, c3, c4⟩ := row_cell r0
  obtain ⟨d0, d1, d2, d3, d4⟩ := row_cell r1
  clear r0 r1
  cases hR : fewB v' with
  | false =>
    have HG : Hid (smB v v' = true) := hide (by simp [smB, hR])
    rw [hR] at CF
    clear hR CA
    go_enter Try.func26, Try.ntmps26
    go_wp2_with fail
    refine (unhide (CF w2 (unhide X0))).mono ?_
    rintro e u1 ⟨rfl, b1⟩
    have X1 : Hid (Below w2.heap.size w2 u1) := hide ((unhide X0).trans (b1.mono (unhide X0).size))
    clear c0 c1 c2 c3 c4 d0 d1 d2 d3 d4
    obtain ⟨r0, r1⟩ := (unhide HT).later (unhide X1)
    obtain ⟨c0, c1, c2, c3, c4⟩ := row_cell r0
    obtain ⟨d0, d1, d2, d3, d4⟩ := row_cell r1
    clear r0 r1
    clear b1
    go_wp2_with fail
    go_ret
    exact ⟨by rw [unhide HG]; rfl, by first | exact unhide HB _ (unhide X1) | (rw [← hg]; exact unhide HB _ (unhide X1))⟩
  | true =>
    have HG : Hid (smB v v' = sameB v v') := hide (by simp [smB, hR])
    rw [hR] at CF
    obtain ⟨R, hRR⟩ : ∃ R, sameB v v' = R := ⟨_, rfl⟩
    rw [hRR] at CA HG
    clear hR hRR
    go_enter Try.func26, Try.ntmps26
    go_wp2_with fail
    refine (unhide (CF w2 (unhide X0))).mono ?_
    rintro e u1 ⟨rfl, b1⟩
    have X1 : Hid (Below w2.heap.size w2 u1) := hide ((unhide X0).trans (b1.mono (unhide X0).size))
    clear c0 c1 c2 c3 c4 d0 d1 d2 d3 d4
    obtain ⟨r0, r1⟩ := (unhide HT).later (unhide X1)
    obtain ⟨c0, c1, c2, c3, c4⟩ := row_cell r0
    obtain ⟨d0, d1, d2, d3, d4⟩ := row_cell r1
    clear r0 r1
    clear b1
    go_wp2_with fail
    refine (unhide (CA u1 (unhide X1))).mono ?_
    rintro e u2 ⟨rfl, b2⟩
    have X2 : Hid (Below w2.heap.size w2 u2) := hide ((unhide X1).trans (b2.mono (unhide X1).size))
    clear c0 c1 c2 c3 c4 d0 d1 d2 d3 d4
    obtain ⟨r0, r1⟩ := (unhide HT).later (unhide X2)
    obtain ⟨c0, c1, c2, c3, c4⟩ := row_cell r0
    obtain ⟨d0, d1, d2, d3, d4⟩ := row_cell r1
    clear r0 r1
    clear b2
    go_wp2_with fail
    go_ret
    exact ⟨by rw [unhide HG]; rfl, by first | exact unhide HB _ (unhide X2) | (rw [← hg]; exact unhide HB _ (unhide X2))⟩
end Go.Proofs.Ytocklblkopmjgaa

namespace Go.Proofs.Ytocklblkopmjgaa
open Go.RowKit

/-- a value without lists lies in any memory -/
theorem plain_val (w : World) (P : Nat → Prop) (k n : Int) (s : ByteArray) (bk : 0 ≤ k ∧ k ≤ 5) (bn : -9223372036854775808 ≤ n ∧ n ≤ 9223372036854775807) (bs : s.size ≤ 2048) :
    IsP w P (.mk k n s [] []) (.agg #[.int .i64 k, .int .i64 n, .string s, .slice none 0 0, .slice none 0 0]) := by
  have h := heap_alloc_new w (.cells #[.int .i64 k, .int .i64 n, .string s, .slice none 0 0, .slice none 0 0] 27)
  have hs : (w.alloc (.cells #[.int .i64 k, .int .i64 n, .string s, .slice none 0 0, .slice none 0 0] 27)).heap.size = w.heap.size + 1 := by simp
  generalize w.alloc (.cells #[.int .i64 k, .int .i64 n, .string s, .slice none 0 0, .slice none 0 0] 27) = u at h hs
  have M : Mid u (w.heap.size + 1) w.heap.size k n s [] [] (.slice none 0 0) (.slice none 0 0) 0 0 (fun _ => []) := ⟨h, by omega, by omega, World.ownsRow_nil _ _ _ _, World.ownsRow_nil _ _ _ _, Or.inl rfl, fun c h => by omega, fun c y h => by omega⟩
  exact (M.made rfl rfl (by omega) bn (by omega) (by simp) (by simp) (by simp)).to (fun b hb => by omega) (fun b hb => by omega)

theorem right_int (n : Int) : rightB (.mk 2 n ⟨#[]⟩ [] []) = true := by
  simp [rightB, okB, formB, formM, okL_nil, wt, keysW, wtL_nil, e0s]
theorem right_unit : rightB (.mk 0 0 ⟨#[]⟩ [] []) = true := by
  simp [rightB, okB, formB, formM, okL_nil, wt, keysW, wtL_nil, e0s]

theorem wenc_int (n : Int) : wenc (.mk 2 n ⟨#[]⟩ [] []) = 3 :: encF 9 (foldI n) := by simp [wenc, encN]

theorem take_int (n : Int) (hn : -9223372036854775808 ≤ n ∧ n ≤ 9223372036854775807) : decR (wenc (.mk 2 n ⟨#[]⟩ [] [])) = .ok (.mk 2 n ⟨#[]⟩ [] []) := by
  have hu := uint_back [3] [] (foldI n) (foldI_range hn).1 (foldI_range hn).2
  rw [List.append_nil] at hu
  have e1 : ([3] ++ encF 9 (foldI n) : List Int) = wenc (.mk 2 n ⟨#[]⟩ [] []) := by rw [wenc_int]; rfl
  rw [e1] at hu
  have h3 : (wenc (.mk 2 n ⟨#[]⟩ [] []))[0]? = some 3 := by rw [wenc_int]; rfl
  have hlen : (wenc (.mk 2 n ⟨#[]⟩ [] [])).length = 1 + (encF 9 (foldI n)).length := by rw [wenc_int]; simp; omega
  generalize wenc (.mk 2 n ⟨#[]⟩ [] []) = zs at *
  have hv : rdV zs 8 0 0 = .ok (.mk 2 n ⟨#[]⟩ [] [], zs.length, 1) := by
    rw [show (8 : Nat) = 7 + 1 from rfl]
    simp only [rdV, h3]
    have hi : intOfU (uintAt zs ((0 + 1 : Nat) : Int)) = (n, ((1 + (encF 9 (foldI n)).length : Nat) : Int), 0) := by
      have : uintAt zs ((0 + 1 : Nat) : Int) = (foldI n, ((1 + (encF 9 (foldI n)).length : Nat) : Int), 0) := by simpa using hu
      rw [this]
      simp [intOfU, unfold_fold]
    simp only [rdNum, hi]
    simp [hlen]
    omega
  have ht : takeR zs 0 = .ok (.mk 2 n ⟨#[]⟩ [] [], zs.length) := by
    unfold takeR
    rw [if_neg (by omega)]
    simp only [Int.toNat_zero, hv]
  simp only [decR, ht]
  rw [if_neg (by omega)]
end Go.Proofs.Ytocklblkopmjgaa

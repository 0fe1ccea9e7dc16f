/-
  Two right values have the same bytes just if they are the same; no value's bytes begin another's (WireApartSaid); no condition but the form's own reach.
-/
import Derived.Test.YtlcokhijibnlaacRows
import Derived.Test.YtlcokhijibnlaacWPut
import Derived.Test.YtlcokhijibnlaacWSame
import Derived.Test.YtlcokhijibnlaacVRefR
import Derived.Test.YtlcokhijibnlaacVOpen
import Derived.ShutString
import Derived.ChangeOld
namespace Go.Proofs.Ytlcokhijibnlaac.wireApart
open Go.ChangeShapes Go.WideShapes Go.ChangeAt Go.RowKit
set_option linter.unusedVariables false

theorem own : ownKnob Try.prog.godebug = none := by kernel_rfl
theorem laidOut : laidOutB Try.prog = true := by kernel_rfl

/-- the first bytes of both are the same just if the values are -/
theorem begins {a b : Vl} (ha : rightB a = true) (hb : rightB b = true) (fa : fitB a = true) (fb : fitB b = true) (n : Nat) (hn : n = min (wenc a).length (wenc b).length) :
    ((strOfNums ((wenc a).take n)).toList == (strOfNums ((wenc b).take n)).toList) = smB a b := by
  have oa := (right_wt ha).1
  have ob := (right_wt hb).1
  have sa := wenc_small a 8 oa fa
  have sb := wenc_small b 8 ob fb
  rw [show smB a b = sameB a b by simp [smB, few_right hb], Bool.eq_iff_iff, bytes_beq, sameB_iff]
  constructor
  · intro h
    have e := str_inj _ _ (fun c hc => sa c (List.mem_of_mem_take hc)) (fun c hc => sb c (List.mem_of_mem_take hc)) h
    rcases Nat.le_total (wenc a).length (wenc b).length with hl | hl
    · rw [List.take_of_length_le (by omega)] at e
      refine (wenc_split a b 8 8 ((wenc b).drop n) [] oa ob ?_).1
      rw [e, List.take_append_drop, List.append_nil]
    · rw [List.take_of_length_le (l := wenc b) (by omega)] at e
      refine (wenc_split a b 8 8 [] ((wenc a).drop n) oa ob ?_).1
      rw [← e, List.take_append_drop, List.append_nil]
  · rintro rfl
    rfl

theorem code_no {v : Vl} (h : rightB v = false) : codeR v = 40 := by simp [codeR, h]
theorem code_yes {v : Vl} (h : rightB v = true) : codeR v = 0 := by simp [codeR, h]

set_option maxRecDepth 100000 in
set_option maxHeartbeats 800000 in
theorem walk (v v' : Vl) (x x' : Value) (B : Nat) (w : World) (hv : IsV w B v x) (hv' : IsV w B v' x') (hBs : B ≤ w.heap.size) :
    Calls Try.prog 3 #[x, x'] w fun e w' => e = .returned (.bool true) ∧ Below w.heap.size w w' := by
  have hfit := hv.fit
  have hfit' := hv'.fit
  obtain ⟨k, n, s, l, ks, al, ak, cl, ck, hvv, hx⟩ := hv.shape
  clear hvv
  obtain ⟨k', n', s', l', ks', al', ak', cl', ck', hvv', hx'⟩ := hv'.shape
  clear hvv'
  obtain ⟨m, hm⟩ : ∃ m, ks.length = m := ⟨_, rfl⟩
  obtain ⟨ln, hln⟩ : ∃ ln, l.length = ln := ⟨_, rfl⟩
  obtain ⟨m', hm'⟩ : ∃ m', ks'.length = m' := ⟨_, rfl⟩
  obtain ⟨ln', hln'⟩ : ∃ ln', l'.length = ln' := ⟨_, rfl⟩
  rw [hm, hln] at hx
  rw [hm', hln'] at hx'
  subst hx
  subst hx'
  have TW := Two.mk' w 25 #[.int .i64 k, .int .i64 n, .string s, .slice al ln cl, .slice ak m ck] #[.int .i64 k', .int .i64 n', .string s', .slice al' ln' cl', .slice ak' m' ck']
  obtain ⟨w2, hw2⟩ : ∃ w2, (w.alloc (.cells #[.int .i64 k, .int .i64 n, .string s, .slice al ln cl, .slice ak m ck] 25)).alloc (.cells #[.int .i64 k', .int .i64 n', .string s', .slice al' ln' cl', .slice ak' m' ck'] 25) = w2 := ⟨_, rfl⟩
  rw [hw2] at TW
  obtain ⟨g, hg⟩ : ∃ g, w.heap.size = g := ⟨_, rfl⟩
  rw [hg] at TW
  have HT := hide TW
  have HV : Hid (∀ u, Below w2.heap.size w2 u → IsV u B v (.agg #[.int .i64 k, .int .i64 n, .string s, .slice al ln cl, .slice ak m ck]) ∧ IsV u B v' (.agg #[.int .i64 k', .int .i64 n', .string s', .slice al' ln' cl', .slice ak' m' ck']) ∧ B ≤ u.heap.size) :=
    hide (fun u hu => by
      have h1 : Below B w u := (TW.below.mono (by omega)).trans (hu.mono (by have := TW.size; omega))
      exact ⟨hv.mono h1, hv'.mono h1, by have := hu.size; have := TW.size; omega⟩)
  have HB : Hid (∀ u, Below w2.heap.size w2 u → Below w.heap.size w u) := hide (fun u hu => TW.below.trans (hu.mono (by have := TW.size; omega)))
  clear TW hv hv' hm hln hm' hln'
  have CC := fun u hu => hide (copied_any v _ B u (unhide HV u hu).1 (unhide HV u hu).2.2)
  have CC' := fun u hu => hide (copied_any v' _ B u (unhide HV u hu).2.1 (unhide HV u hu).2.2)
  have CR := fun u hu => hide (right_ref v _ B u (unhide HV u hu).1 (unhide HV u hu).2.2)
  have CR' := fun u hu => hide (right_ref v' _ B u (unhide HV u hu).2.1 (unhide HV u hu).2.2)
  have CS := fun u hu => hide (same_any v v' _ _ B u (unhide HV u hu).1 (unhide HV u hu).2.1 (unhide HV u hu).2.2)
  have CE := fun u y (hy : IsV u u.heap.size v y) => hide (encode_any v y _ u hy (Nat.le_refl _))
  have CE' := fun u y (hy : IsV u u.heap.size v' y) => hide (encode_any v' y _ u hy (Nat.le_refl _))
  have X0 : Hid (Below w2.heap.size w2 w2) := hide (Below.refl _ _)
  obtain ⟨r0, r1⟩ := (unhide HT).later (unhide X0)
  obtain ⟨c0, c1, c2, c3, c4⟩ := row_cell r0
  obtain ⟨d0, d1, d2, d3, d4⟩ := row_cell r1
  clear r0 r1
  cases hR : rightB v with
  | false =>
    rw [hR] at CR
    rw [code_no hR] at CE
    obtain ⟨R', hR'⟩ : ∃ R', rightB v' = R' := ⟨_, rfl⟩
    rw [hR'] at CR'
    obtain ⟨C', hC'⟩ : ∃ C', codeR v' = C' := ⟨_, rfl⟩
    rw [hC'] at CE'
    have hcc : ((C' == 0) != R') = false := by rw [← hC', ← hR']; unfold codeR; cases rightB v' <;> rfl
    have hcd : ((40 : Int) == 0) = false := by decide
    clear hR CS hC' hR' hfit hfit'
    cases hcb : (C' == 0) with
    | true =>
      rw [hcb] at hcc
      have hr : R' = true := by cases R' <;> simp_all
      subst hr
      go_enter Try.func3, Try.ntmps3
      go_wp2_with fail
      refine (unhide (CC w2 (unhide X0))).mono ?_
      rintro e u1 ⟨y1, rfl, p1, b1⟩
      have X1 : Hid (Below w2.heap.size w2 u1) := hide ((unhide X0).trans (b1.mono (unhide X0).size))
      have P1 := hide p1
      clear p1
      clear c0 c1 c2 c3 c4 d0 d1 d2 d3 d4
      obtain ⟨r0, r1⟩ := (unhide HT).later (unhide X1)
      obtain ⟨c0, c1, c2, c3, c4⟩ := row_cell r0
      obtain ⟨d0, d1, d2, d3, d4⟩ := row_cell r1
      clear r0 r1
      clear b1
      go_wp2_with fail
      refine (unhide (CE u1 y1 (unhide P1))).mono ?_
      rintro e u2 ⟨a2, l2, c2p, rfl, q2, b2, n2⟩
      have X2 : Hid (Below w2.heap.size w2 u2) := hide ((unhide X1).trans (b2.mono (unhide X1).size))
      have Q2 := hide q2
      clear q2 n2 P1
      clear c0 c1 c2 c3 c4 d0 d1 d2 d3 d4
      obtain ⟨r0, r1⟩ := (unhide HT).later (unhide X2)
      obtain ⟨c0, c1, c2, c3, c4⟩ := row_cell r0
      obtain ⟨d0, d1, d2, d3, d4⟩ := row_cell r1
      clear r0 r1
      clear b2
      go_wp2_with fail
      refine (unhide (CC' u2 (unhide X2))).mono ?_
      rintro e u3 ⟨y3, rfl, p3, b3⟩
      have X3 : Hid (Below w2.heap.size w2 u3) := hide ((unhide X2).trans (b3.mono (unhide X2).size))
      have P3 := hide p3
      have Q3 := hide ((unhide Q2).later b3)
      clear p3 Q2
      clear c0 c1 c2 c3 c4 d0 d1 d2 d3 d4
      obtain ⟨r0, r1⟩ := (unhide HT).later (unhide X3)
      obtain ⟨c0, c1, c2, c3, c4⟩ := row_cell r0
      obtain ⟨d0, d1, d2, d3, d4⟩ := row_cell r1
      clear r0 r1
      clear b3
      go_wp2_with fail
      refine (unhide (CE' u3 y3 (unhide P3))).mono ?_
      rintro e u4 ⟨a4, l4, c4p, rfl, q4, b4, n4⟩
      have X4 : Hid (Below w2.heap.size w2 u4) := hide ((unhide X3).trans (b4.mono (unhide X3).size))
      have Q4 := hide (And.intro ((unhide Q3).later b4) q4)
      clear q4 n4 P3 Q3
      clear c0 c1 c2 c3 c4 d0 d1 d2 d3 d4
      obtain ⟨r0, r1⟩ := (unhide HT).later (unhide X4)
      obtain ⟨c0, c1, c2, c3, c4⟩ := row_cell r0
      obtain ⟨d0, d1, d2, d3, d4⟩ := row_cell r1
      clear r0 r1
      clear b4
      go_wp2_with fail
      refine (unhide (CR u4 (unhide X4))).mono ?_
      rintro e u5 ⟨rfl, b5⟩
      have X5 : Hid (Below w2.heap.size w2 u5) := hide ((unhide X4).trans (b5.mono (unhide X4).size))
      have Q5 := hide (And.intro ((unhide Q4).1.later b5) ((unhide Q4).2.later b5))
      clear Q4
      clear c0 c1 c2 c3 c4 d0 d1 d2 d3 d4
      obtain ⟨r0, r1⟩ := (unhide HT).later (unhide X5)
      obtain ⟨c0, c1, c2, c3, c4⟩ := row_cell r0
      obtain ⟨d0, d1, d2, d3, d4⟩ := row_cell r1
      clear r0 r1
      clear b5
      go_wp2_with fail
      refine (unhide (CR' u5 (unhide X5))).mono ?_
      rintro e u6 ⟨rfl, b6⟩
      have X6 : Hid (Below w2.heap.size w2 u6) := hide ((unhide X5).trans (b6.mono (unhide X5).size))
      have Q6 := hide (And.intro ((unhide Q5).1.later b6) ((unhide Q5).2.later b6))
      clear Q5
      clear c0 c1 c2 c3 c4 d0 d1 d2 d3 d4
      obtain ⟨r0, r1⟩ := (unhide HT).later (unhide X6)
      obtain ⟨c0, c1, c2, c3, c4⟩ := row_cell r0
      obtain ⟨d0, d1, d2, d3, d4⟩ := row_cell r1
      clear r0 r1
      clear b6
      go_wp2_with fail
      go_ret
      exact ⟨by simp, by first | exact unhide HB _ (unhide X6) | (rw [← hg]; exact unhide HB _ (unhide X6))⟩
    | false =>
      rw [hcb] at hcc
      have hr : R' = false := by cases R' <;> simp_all
      subst hr
      go_enter Try.func3, Try.ntmps3
      go_wp2_with fail
      refine (unhide (CC w2 (unhide X0))).mono ?_
      rintro e u1 ⟨y1, rfl, p1, b1⟩
      have X1 : Hid (Below w2.heap.size w2 u1) := hide ((unhide X0).trans (b1.mono (unhide X0).size))
      have P1 := hide p1
      clear p1
      clear c0 c1 c2 c3 c4 d0 d1 d2 d3 d4
      obtain ⟨r0, r1⟩ := (unhide HT).later (unhide X1)
      obtain ⟨c0, c1, c2, c3, c4⟩ := row_cell r0
      obtain ⟨d0, d1, d2, d3, d4⟩ := row_cell r1
      clear r0 r1
      clear b1
      go_wp2_with fail
      refine (unhide (CE u1 y1 (unhide P1))).mono ?_
      rintro e u2 ⟨a2, l2, c2p, rfl, q2, b2, n2⟩
      have X2 : Hid (Below w2.heap.size w2 u2) := hide ((unhide X1).trans (b2.mono (unhide X1).size))
      have Q2 := hide q2
      clear q2 n2 P1
      clear c0 c1 c2 c3 c4 d0 d1 d2 d3 d4
      obtain ⟨r0, r1⟩ := (unhide HT).later (unhide X2)
      obtain ⟨c0, c1, c2, c3, c4⟩ := row_cell r0
      obtain ⟨d0, d1, d2, d3, d4⟩ := row_cell r1
      clear r0 r1
      clear b2
      go_wp2_with fail
      refine (unhide (CC' u2 (unhide X2))).mono ?_
      rintro e u3 ⟨y3, rfl, p3, b3⟩
      have X3 : Hid (Below w2.heap.size w2 u3) := hide ((unhide X2).trans (b3.mono (unhide X2).size))
      have P3 := hide p3
      have Q3 := hide ((unhide Q2).later b3)
      clear p3 Q2
      clear c0 c1 c2 c3 c4 d0 d1 d2 d3 d4
      obtain ⟨r0, r1⟩ := (unhide HT).later (unhide X3)
      obtain ⟨c0, c1, c2, c3, c4⟩ := row_cell r0
      obtain ⟨d0, d1, d2, d3, d4⟩ := row_cell r1
      clear r0 r1
      clear b3
      go_wp2_with fail
      refine (unhide (CE' u3 y3 (unhide P3))).mono ?_
      rintro e u4 ⟨a4, l4, c4p, rfl, q4, b4, n4⟩
      have X4 : Hid (Below w2.heap.size w2 u4) := hide ((unhide X3).trans (b4.mono (unhide X3).size))
      have Q4 := hide (And.intro ((unhide Q3).later b4) q4)
      clear q4 n4 P3 Q3
      clear c0 c1 c2 c3 c4 d0 d1 d2 d3 d4
      obtain ⟨r0, r1⟩ := (unhide HT).later (unhide X4)
      obtain ⟨c0, c1, c2, c3, c4⟩ := row_cell r0
      obtain ⟨d0, d1, d2, d3, d4⟩ := row_cell r1
      clear r0 r1
      clear b4
      go_wp2_with fail
      refine (unhide (CR u4 (unhide X4))).mono ?_
      rintro e u5 ⟨rfl, b5⟩
      have X5 : Hid (Below w2.heap.size w2 u5) := hide ((unhide X4).trans (b5.mono (unhide X4).size))
      have Q5 := hide (And.intro ((unhide Q4).1.later b5) ((unhide Q4).2.later b5))
      clear Q4
      clear c0 c1 c2 c3 c4 d0 d1 d2 d3 d4
      obtain ⟨r0, r1⟩ := (unhide HT).later (unhide X5)
      obtain ⟨c0, c1, c2, c3, c4⟩ := row_cell r0
      obtain ⟨d0, d1, d2, d3, d4⟩ := row_cell r1
      clear r0 r1
      clear b5
      go_wp2_with fail
      refine (unhide (CR' u5 (unhide X5))).mono ?_
      rintro e u6 ⟨rfl, b6⟩
      have X6 : Hid (Below w2.heap.size w2 u6) := hide ((unhide X5).trans (b6.mono (unhide X5).size))
      have Q6 := hide (And.intro ((unhide Q5).1.later b6) ((unhide Q5).2.later b6))
      clear Q5
      clear c0 c1 c2 c3 c4 d0 d1 d2 d3 d4
      obtain ⟨r0, r1⟩ := (unhide HT).later (unhide X6)
      obtain ⟨c0, c1, c2, c3, c4⟩ := row_cell r0
      obtain ⟨d0, d1, d2, d3, d4⟩ := row_cell r1
      clear r0 r1
      clear b6
      go_wp2_with fail
      go_ret
      exact ⟨by simp, by first | exact unhide HB _ (unhide X6) | (rw [← hg]; exact unhide HB _ (unhide X6))⟩
  | true =>
    rw [hR] at CR
    rw [code_yes hR] at CE
    cases hR' : rightB v' with
    | false =>
      rw [hR'] at CR'
      rw [code_no hR'] at CE'
      clear hR hR' CS hfit hfit'
      go_enter Try.func3, Try.ntmps3
      go_wp2_with fail
      refine (unhide (CC w2 (unhide X0))).mono ?_
      rintro e u1 ⟨y1, rfl, p1, b1⟩
      have X1 : Hid (Below w2.heap.size w2 u1) := hide ((unhide X0).trans (b1.mono (unhide X0).size))
      have P1 := hide p1
      clear p1
      clear c0 c1 c2 c3 c4 d0 d1 d2 d3 d4
      obtain ⟨r0, r1⟩ := (unhide HT).later (unhide X1)
      obtain ⟨c0, c1, c2, c3, c4⟩ := row_cell r0
      obtain ⟨d0, d1, d2, d3, d4⟩ := row_cell r1
      clear r0 r1
      clear b1
      go_wp2_with fail
      refine (unhide (CE u1 y1 (unhide P1))).mono ?_
      rintro e u2 ⟨a2, l2, c2p, rfl, q2, b2, n2⟩
      have X2 : Hid (Below w2.heap.size w2 u2) := hide ((unhide X1).trans (b2.mono (unhide X1).size))
      have Q2 := hide q2
      clear q2 n2 P1
      clear c0 c1 c2 c3 c4 d0 d1 d2 d3 d4
      obtain ⟨r0, r1⟩ := (unhide HT).later (unhide X2)
      obtain ⟨c0, c1, c2, c3, c4⟩ := row_cell r0
      obtain ⟨d0, d1, d2, d3, d4⟩ := row_cell r1
      clear r0 r1
      clear b2
      go_wp2_with fail
      refine (unhide (CC' u2 (unhide X2))).mono ?_
      rintro e u3 ⟨y3, rfl, p3, b3⟩
      have X3 : Hid (Below w2.heap.size w2 u3) := hide ((unhide X2).trans (b3.mono (unhide X2).size))
      have P3 := hide p3
      have Q3 := hide ((unhide Q2).later b3)
      clear p3 Q2
      clear c0 c1 c2 c3 c4 d0 d1 d2 d3 d4
      obtain ⟨r0, r1⟩ := (unhide HT).later (unhide X3)
      obtain ⟨c0, c1, c2, c3, c4⟩ := row_cell r0
      obtain ⟨d0, d1, d2, d3, d4⟩ := row_cell r1
      clear r0 r1
      clear b3
      go_wp2_with fail
      refine (unhide (CE' u3 y3 (unhide P3))).mono ?_
      rintro e u4 ⟨a4, l4, c4p, rfl, q4, b4, n4⟩
      have X4 : Hid (Below w2.heap.size w2 u4) := hide ((unhide X3).trans (b4.mono (unhide X3).size))
      have Q4 := hide (And.intro ((unhide Q3).later b4) q4)
      clear q4 n4 P3 Q3
      clear c0 c1 c2 c3 c4 d0 d1 d2 d3 d4
      obtain ⟨r0, r1⟩ := (unhide HT).later (unhide X4)
      obtain ⟨c0, c1, c2, c3, c4⟩ := row_cell r0
      obtain ⟨d0, d1, d2, d3, d4⟩ := row_cell r1
      clear r0 r1
      clear b4
      go_wp2_with fail
      refine (unhide (CR u4 (unhide X4))).mono ?_
      rintro e u5 ⟨rfl, b5⟩
      have X5 : Hid (Below w2.heap.size w2 u5) := hide ((unhide X4).trans (b5.mono (unhide X4).size))
      have Q5 := hide (And.intro ((unhide Q4).1.later b5) ((unhide Q4).2.later b5))
      clear Q4
      clear c0 c1 c2 c3 c4 d0 d1 d2 d3 d4
      obtain ⟨r0, r1⟩ := (unhide HT).later (unhide X5)
      obtain ⟨c0, c1, c2, c3, c4⟩ := row_cell r0
      obtain ⟨d0, d1, d2, d3, d4⟩ := row_cell r1
      clear r0 r1
      clear b5
      go_wp2_with fail
      refine (unhide (CR' u5 (unhide X5))).mono ?_
      rintro e u6 ⟨rfl, b6⟩
      have X6 : Hid (Below w2.heap.size w2 u6) := hide ((unhide X5).trans (b6.mono (unhide X5).size))
      have Q6 := hide (And.intro ((unhide Q5).1.later b6) ((unhide Q5).2.later b6))
      clear Q5
      clear c0 c1 c2 c3 c4 d0 d1 d2 d3 d4
      obtain ⟨r0, r1⟩ := (unhide HT).later (unhide X6)
      obtain ⟨c0, c1, c2, c3, c4⟩ := row_cell r0
      obtain ⟨d0, d1, d2, d3, d4⟩ := row_cell r1
      clear r0 r1
      clear b6
      go_wp2_with fail
      go_ret
      exact ⟨by simp, by first | exact unhide HB _ (unhide X6) | (rw [← hg]; exact unhide HB _ (unhide X6))⟩
    | true =>
      rw [hR'] at CR'
      rw [code_yes hR'] at CE'
      have hw0 : wenc0R v = wenc v := by simp [wenc0R, hR]
      have hw0' : wenc0R v' = wenc v' := by simp [wenc0R, hR']
      rw [hw0] at CE
      rw [hw0'] at CE'
      have hp := wenc_pos v 8 (right_wt hR).1
      have hp' := wenc_pos v' 8 (right_wt hR').1
      have hle := wenc_len v
      have hle' := wenc_len v'
      have hwt := (right_wt hR).2
      have hwt' := (right_wt hR').2
      have hbg := fun n hn => begins hR hR' hfit hfit' n hn
      obtain ⟨P, hP⟩ : ∃ P, wenc v = P := ⟨_, rfl⟩
      obtain ⟨Q, hQ⟩ : ∃ Q, wenc v' = Q := ⟨_, rfl⟩
      obtain ⟨D, hD⟩ : ∃ D, smB v v' = D := ⟨_, rfl⟩
      rw [hP] at CE hp hle
      rw [hQ] at CE' hp' hle'
      rw [hD] at CS
      rw [hP, hQ, hD] at hbg
      have HBG := hide hbg
      have lp : P.length ≤ 43008 := by omega
      have lq : Q.length ≤ 43008 := by omega
      clear hR hR' hfit hfit' hw0 hw0' hle hle' hwt hwt' hbg hP hQ hD
      go_enter Try.func3, Try.ntmps3
      go_wp2_with fail
      refine (unhide (CC w2 (unhide X0))).mono ?_
      rintro e u1 ⟨y1, rfl, p1, b1⟩
      have X1 : Hid (Below w2.heap.size w2 u1) := hide ((unhide X0).trans (b1.mono (unhide X0).size))
      have P1 := hide p1
      clear p1
      clear c0 c1 c2 c3 c4 d0 d1 d2 d3 d4
      obtain ⟨r0, r1⟩ := (unhide HT).later (unhide X1)
      obtain ⟨c0, c1, c2, c3, c4⟩ := row_cell r0
      obtain ⟨d0, d1, d2, d3, d4⟩ := row_cell r1
      clear r0 r1
      clear b1
      go_wp2_with fail
      refine (unhide (CE u1 y1 (unhide P1))).mono ?_
      rintro e u2 ⟨a2, l2, c2p, rfl, q2, b2, n2⟩
      have X2 : Hid (Below w2.heap.size w2 u2) := hide ((unhide X1).trans (b2.mono (unhide X1).size))
      have Q2 := hide q2
      clear q2 n2 P1
      clear c0 c1 c2 c3 c4 d0 d1 d2 d3 d4
      obtain ⟨r0, r1⟩ := (unhide HT).later (unhide X2)
      obtain ⟨c0, c1, c2, c3, c4⟩ := row_cell r0
      obtain ⟨d0, d1, d2, d3, d4⟩ := row_cell r1
      clear r0 r1
      clear b2
      go_wp2_with fail
      refine (unhide (CC' u2 (unhide X2))).mono ?_
      rintro e u3 ⟨y3, rfl, p3, b3⟩
      have X3 : Hid (Below w2.heap.size w2 u3) := hide ((unhide X2).trans (b3.mono (unhide X2).size))
      have P3 := hide p3
      have Q3 := hide ((unhide Q2).later b3)
      clear p3 Q2
      clear c0 c1 c2 c3 c4 d0 d1 d2 d3 d4
      obtain ⟨r0, r1⟩ := (unhide HT).later (unhide X3)
      obtain ⟨c0, c1, c2, c3, c4⟩ := row_cell r0
      obtain ⟨d0, d1, d2, d3, d4⟩ := row_cell r1
      clear r0 r1
      clear b3
      go_wp2_with fail
      refine (unhide (CE' u3 y3 (unhide P3))).mono ?_
      rintro e u4 ⟨a4, l4, c4p, rfl, q4, b4, n4⟩
      have X4 : Hid (Below w2.heap.size w2 u4) := hide ((unhide X3).trans (b4.mono (unhide X3).size))
      have Q4 := hide (And.intro ((unhide Q3).later b4) q4)
      clear q4 n4 P3 Q3
      clear c0 c1 c2 c3 c4 d0 d1 d2 d3 d4
      obtain ⟨r0, r1⟩ := (unhide HT).later (unhide X4)
      obtain ⟨c0, c1, c2, c3, c4⟩ := row_cell r0
      obtain ⟨d0, d1, d2, d3, d4⟩ := row_cell r1
      clear r0 r1
      clear b4
      go_wp2_with fail
      refine (unhide (CR u4 (unhide X4))).mono ?_
      rintro e u5 ⟨rfl, b5⟩
      have X5 : Hid (Below w2.heap.size w2 u5) := hide ((unhide X4).trans (b5.mono (unhide X4).size))
      have Q5 := hide (And.intro ((unhide Q4).1.later b5) ((unhide Q4).2.later b5))
      clear Q4
      clear c0 c1 c2 c3 c4 d0 d1 d2 d3 d4
      obtain ⟨r0, r1⟩ := (unhide HT).later (unhide X5)
      obtain ⟨c0, c1, c2, c3, c4⟩ := row_cell r0
      obtain ⟨d0, d1, d2, d3, d4⟩ := row_cell r1
      clear r0 r1
      clear b5
      go_wp2_with fail
      refine (unhide (CR' u5 (unhide X5))).mono ?_
      rintro e u6 ⟨rfl, b6⟩
      have X6 : Hid (Below w2.heap.size w2 u6) := hide ((unhide X5).trans (b6.mono (unhide X5).size))
      have Q6 := hide (And.intro ((unhide Q5).1.later b6) ((unhide Q5).2.later b6))
      clear Q5
      clear c0 c1 c2 c3 c4 d0 d1 d2 d3 d4
      obtain ⟨r0, r1⟩ := (unhide HT).later (unhide X6)
      obtain ⟨c0, c1, c2, c3, c4⟩ := row_cell r0
      obtain ⟨d0, d1, d2, d3, d4⟩ := row_cell r1
      clear r0 r1
      clear b6
      have e2 := (unhide Q6).1.length
      have e4 := (unhide Q6).2.length
      obtain ⟨bp, op, rfl, kp⟩ := (unhide Q6).1.at (by omega)
      obtain ⟨bq, oq, rfl, kq⟩ := (unhide Q6).2.at (by omega)
      have hcp : l2 ≤ c2p := (unhide Q6).1.le
      have hcq : l4 ≤ c4p := (unhide Q6).2.le
      obtain ⟨n, hn⟩ : ∃ n, min l2 l4 = n := ⟨_, rfl⟩
      have np : n ≤ l2 := by omega
      have nq : n ≤ l4 := by omega
      have n0 : 0 < n := by omega
      have k1 := conv_row (unhide Q6).1.length kp 0 n c2p (by omega)
      have k2 := conv_row (unhide Q6).2.length kq 0 n c4p (by omega)
      simp only [Nat.add_zero, List.drop_zero] at k1 k2
      have hbe := unhide HBG n (by omega)
      obtain ⟨S1, hS1⟩ : ∃ S1, strOfNums (P.take n) = S1 := ⟨_, rfl⟩
      obtain ⟨S2, hS2⟩ : ∃ S2, strOfNums (Q.take n) = S2 := ⟨_, rfl⟩
      rw [hS1] at k1 hbe
      rw [hS2] at k2 hbe
      have i1 : (0 : Int) ≤ (n : Int) := by omega
      have i2 : (n : Int) ≤ (c2p : Int) := by omega
      have i3 : (n : Int) ≤ (c4p : Int) := by omega
      have i4 : (0 : Int) < (n : Int) := by omega
      have HN := hide (And.intro hn hbe)
      clear kp kq hS1 hS2 hn hbe np nq hcp hcq e2 e4 hp hp' lp lq HBG
      go_upto_region 7 with fail
      go_cut [9] from 10 to 54 (fun r wx => r = .int .i64 (n : Int) ∧ wx = u6)
      case first =>
        go_wp2_with fail
        all_goals (go_meet; exact ⟨congrArg (Value.int .i64) (by have := (unhide HN).1; omega), rfl⟩)
      case rest =>
        obtain ⟨rfl, hwc⟩ := hcut
        obtain rfl := hwc.symm
        clear hwc
        go_upto_region 8 with fail
        go_cut [10] from 10 to 54 (fun r wx => r = .bool D ∧ ∃ q, wx = u6.drewN q)
        case first =>
          go_quiet (fail)
          go_wp2_with fail
          go_meet
          exact ⟨congrArg Value.bool (unhide HN).2, _, rfl⟩
        case rest =>
          obtain ⟨rfl, q, hwc⟩ := hcut
          have X7 : Hid (Below w2.heap.size w2 wc) := hide (by rw [hwc]; exact below_drewN (unhide X6) _)
          clear hwc k1 k2 c0 c1 c2 c3 c4 d0 d1 d2 d3 d4
          obtain ⟨r0, r1⟩ := (unhide HT).later (unhide X7)
          obtain ⟨c0, c1, c2, c3, c4⟩ := row_cell r0
          obtain ⟨d0, d1, d2, d3, d4⟩ := row_cell r1
          clear r0 r1
          go_wp2_with fail
          refine (unhide (CS wc (unhide X7))).mono ?_
          rintro e u8 ⟨rfl, b8⟩
          have X8 : Hid (Below w2.heap.size w2 u8) := hide ((unhide X7).trans (b8.mono (unhide X7).size))
          clear b8
          go_wp2_with fail
          go_ret
          exact ⟨by simp, by first | exact unhide HB _ (unhide X8) | (rw [← hg]; exact unhide HB _ (unhide X8))⟩

set_option maxRecDepth 100000 in
theorem lifted (os : Os) (started : os.Started) (H : Type) (enc : TypeId × Value → H) :
    ReturnsInHanded {} Try.checked os 3 .any (Rows.wireApartSpec.pre6 enc Try.prog Try.f3 Rows.wireApartRow.domain false) (Rows.wireApartSpec.post enc Try.prog Try.f3 false true false false) := by
  refine returnsInHanded_of_change_sized (C := Try.checked) own started (by kernel_rfl) Try.func3
    (ChangeSpec.witness6 (enc := enc) (C := Try.checked) false ⟨#[], #[.agg #[.int .i64 0, .int .i64 0, .string ⟨#[]⟩, .slice none 0 0, .slice none 0 0], .agg #[.int .i64 0, .int .i64 0, .string ⟨#[]⟩, .slice none 0 0, .slice none 0 0]], []⟩ 8 (by kernel_rfl) (by kernel_rfl) (by kernel_rfl) (by kernel_rfl)) ?_
  intro W base args ds gs before hval0 hW _ hsz0 _
  have hsz : (DataW.weightsEach Try.prog (Try.f3.params.toList ++ Rows.wireApartSpec.plain.varTypes Try.prog) (ds ++ gs)).all (· ≤ reachBytes) = true := hsz0
  clear hsz0
  have hval : ∀ (j : Nat) t v, Try.f3.params[j]? = some t → args[j]? = some v → Value.okWide Try.prog W .any base t v := hval0
  have hW' := hW
  obtain ⟨p, q, hA0, hV, rfl, hfz, hnd⟩ := hW
  have hA : DataW.TrodAll enc Try.prog W 0 (fun _ => true) true Try.f3.params.toList args.toList ds p := hA0
  rw [Try.params3] at hA hval hsz
  obtain ⟨v0, vs0, d0, ds0, p0, q0, hargs, rfl, rfl, h0, r0⟩ := trodAll_cons hA
  obtain ⟨v1, vs1, d1, ds1, p1, q1, hargs1, rfl, rfl, h1, r1⟩ := trodAll_cons r0
  obtain ⟨rfl, rfl, rfl⟩ := trodAll_nil r1
  subst hargs1
  obtain rfl : args = #[v0, v1] := by cases args; simp_all
  obtain ⟨rfl, rfl⟩ := trodVars_none hV
  have k0 := h0
  have lt0 : ∀ x ∈ p0, x.block < W.heap.size := by obtain ⟨m, hm⟩ := k0; exact DataW.trod_lt m _ _ _ hm
  have k1 := h1
  have lt1 : ∀ x ∈ p1, x.block < W.heap.size := by obtain ⟨m, hm⟩ := k1; exact DataW.trod_lt m _ _ _ hm
  obtain ⟨cs0, rfl, _⟩ := okWide_struct Try.underlying25 (hval 0 25 v0 rfl rfl)
  obtain ⟨vl0, hv0⟩ : ∃ v, IsV W W.heap.size v (.agg cs0) := by
    obtain ⟨fuel, hf⟩ := h0
    obtain ⟨v, hv⟩ := open_value fuel _ _ hf (reach_arg hsz (j := 0) rfl rfl)
    exact ⟨v, by simpa [Value.cells] using hv⟩
  obtain ⟨cs1, rfl, _⟩ := okWide_struct Try.underlying25 (hval 1 25 v1 rfl rfl)
  obtain ⟨vl1, hv1⟩ : ∃ v, IsV W W.heap.size v (.agg cs1) := by
    obtain ⟨fuel, hf⟩ := h1
    obtain ⟨v, hv⟩ := open_value fuel _ _ hf (reach_arg hsz (j := 1) rfl rfl)
    exact ⟨v, by simpa [Value.cells] using hv⟩
  clear hA0 hval0
  refine (walk vl0 vl1 _ _ W.heap.size W hv0 hv1 (Nat.le_refl _)).mono fun e W' ⟨he, bel⟩ => ?_
  subst he
  exact ⟨_, rfl, _, _, _, [], _, [], hW', trodAll_mk1 (shut_bool Try.underlying4 _), (trodAll_cons_mk (Below.trod laidOut (by kernel_rfl) (of_decide_eq_true (by kernel_rfl)) k0 bel lt0) (trodAll_cons_mk (Below.trod laidOut (by kernel_rfl) (of_decide_eq_true (by kernel_rfl)) k1 bel lt1) trodAll_mk0)), rfl, bel.frame _, fun h => by cases h⟩

theorem over : Rows.wireApartRow.holds Try.pinned (OpenSpec.ofChange Rows.wireApartSpec) :=
  OpenClaim.holds_of_wide 3 Try.f3 rfl rfl rfl rfl rfl rfl rfl ⟨rfl, rfl, rfl, rfl, rfl⟩ rfl rfl rfl rfl rfl (by kernel_rfl) Try.func3 (by kernel_rfl)
    (of_decide_eq_true (by kernel_rfl)) (by unfold Func.isWrapper; first | (rw [if_pos (by decide +kernel)]; kernel_rfl) | (rw [if_neg (by decide +kernel)]; exact ⟨rfl, rfl⟩))
    (fun os started H enc _ => lifted os started H enc)

end Go.Proofs.Ytlcokhijibnlaac.wireApart

namespace Go.Proofs.Ytlcokhijibnlaac
theorem wireApart_holds : Rows.WireApartSaid := wireApart.over
#print axioms wireApart_holds
end Go.Proofs.Ytlcokhijibnlaac

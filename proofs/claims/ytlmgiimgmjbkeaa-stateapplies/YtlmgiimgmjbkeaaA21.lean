/-
  The walks of the document's Right, Weight, deep, Depth; no conditions but the form's own reach.
  The walk of the document's Compare; conditions: the form's own reach.
  The walks of the document's Weight, deep, Depth; no conditions but the form's own reach.
  Of right values only one and the same stand level; no conditions.
  The two rows of a value that is its owner's, as rows of the call's own; no conditions.
  append of one element of any type onto a row of the call's own; no conditions.
-/
import Derived.Test.YtlmgiimgmjbkeaaA20
import Derived.Test.YtlmgiimgmjbkeaaA18
import Derived.WideShapes
import Derived.Test.YtlmgiimgmjbkeaaA08
import Derived.Deep.AppendLies
set_option linter.unusedVariables false
set_option linter.unusedSimpArgs false
namespace Go.Proofs.Ytlmgiimgmjbkeaa
open Go.RowKit

theorem weighR_any : ∀ b, WeighAt b
  | 0 => weigh_zero
  | b + 1 => weigh_step b (weighR_any b)

theorem wgh_right (v : Vl) : (wgh 8 v 0 ≤ 2048 ↔ rightB v = true) ∧ (rightB v = true → wgh 8 v 0 = wt v) ∧ (rightB v = false → wgh 8 v 0 = 2049) := by
  have h0 : rightB v = (okB 8 v && decide (0 + wt v ≤ 2048)) := by unfold rightB; rw [Nat.zero_add]
  have h1 : rightB v = true → wgh 8 v 0 = wt v := by
    intro h
    rw [h0] at h
    unfold wgh
    rw [if_pos h, Nat.zero_add]
  have h2 : rightB v = false → wgh 8 v 0 = 2049 := by
    intro h
    rw [h0] at h
    unfold wgh
    rw [if_neg (by rw [h]; simp)]
  refine ⟨⟨fun h => ?_, fun h => ?_⟩, h1, h2⟩
  · cases hr : rightB v with
    | true => rfl
    | false => rw [h2 hr] at h; omega
  · rw [h1 h]
    unfold rightB at h
    rw [Bool.and_eq_true, decide_eq_true_eq] at h
    exact h.2

set_option maxRecDepth 100000 in
set_option maxHeartbeats 400000 in
theorem right_ref (v : Vl) (x : Value) (B : Nat) (w : World) (hv : IsV w B v x) (hBs : B ≤ w.heap.size) :
    Calls Try.prog 31 #[x] w fun e w' => e = .returned (.bool (rightB v)) ∧ Below w.heap.size w w' := by
  obtain ⟨k', n', s', l', ks', al', ak', cl', ck', hy', hx⟩ := hv.shape
  obtain ⟨ll, hll⟩ : ∃ ll, l'.length = ll := ⟨_, rfl⟩
  obtain ⟨m, hm⟩ : ∃ m, ks'.length = m := ⟨_, rfl⟩
  rw [hll, hm] at hx
  subst hx
  obtain ⟨w1, hw1⟩ : ∃ w1, w.alloc (.cells #[.int .i64 k', .int .i64 n', .string s', .slice al' ll cl', .slice ak' m ck'] 34) = w1 := ⟨_, rfl⟩
  have BX := Box.mk' w (.int .i64 k') (.int .i64 n') (.string s') (.slice al' ll cl') (.slice ak' m ck')
  rw [hw1] at BX
  obtain ⟨c0, c1, c2, c3, c4⟩ := row_cell BX.row
  have z1 := BX.size
  have HB := hide BX.below
  have CW := hide (weighR_any 8 v _ 0 0 B w1 (by omega) (hv.mono (BX.below.mono hBs)) (by omega) (by omega))
  have HR : Hid (decide ((wgh 8 v 0 : Int) ≤ 2048) = rightB v) := hide (by
    cases hr : rightB v with
    | true => exact decide_eq_true (by have := (wgh_right v).1.2 hr; omega)
    | false => exact decide_eq_false (by rw [(wgh_right v).2.2 hr]; omega))
  obtain ⟨W, hW⟩ : ∃ W, wgh 8 v 0 = W := ⟨_, rfl⟩
  rw [hW] at CW HR
  clear BX hv hy' hW
  go_enter Try.func31, Try.ntmps31
  go_wp2_with fail
  refine (unhide CW).mono ?_
  rintro e w2 ⟨rfl, b2⟩
  have B2 := hide b2
  clear b2 CW
  go_wp2_with fail
  go_ret
  exact ⟨by rw [← unhide HR]; rfl, (unhide HB).trans ((unhide B2).mono (by omega))⟩

end Go.Proofs.Ytlmgiimgmjbkeaa

namespace Go.Proofs.Ytlmgiimgmjbkeaa
open Go.RowKit
set_option linter.unusedVariables false

set_option maxRecDepth 100000 in
set_option maxHeartbeats 400000 in
theorem compare_ref (v v' : Vl) (x x' : Value) (B : Nat) (w : World) (hv : IsV w B v x) (hv' : IsV w B v' x') (hBs : B ≤ w.heap.size) :
    Calls Try.prog 28 #[x, x'] w fun e w' => e = .returned (.int .i64 (ord0 v v')) ∧ Below w.heap.size w w' := by
  obtain ⟨k, n, s, l, ks, al, ak, cl, ck, _, hx⟩ := hv.shape
  obtain ⟨k', n', s', l', ks', al', ak', cl', ck', _, hx'⟩ := hv'.shape
  obtain ⟨m, hm⟩ : ∃ m, ks.length = m := ⟨_, rfl⟩
  obtain ⟨ln, hln⟩ : ∃ ln, l.length = ln := ⟨_, rfl⟩
  obtain ⟨m', hm'⟩ : ∃ m', ks'.length = m' := ⟨_, rfl⟩
  obtain ⟨ln', hln'⟩ : ∃ ln', l'.length = ln' := ⟨_, rfl⟩
  rw [hm, hln] at hx
  rw [hm', hln'] at hx'
  subst hx
  subst hx'
  have TW := TwoO.mk' w 34 #[.int .i64 k, .int .i64 n, .string s, .slice al ln cl, .slice ak m ck] #[.int .i64 k', .int .i64 n', .string s', .slice al' ln' cl', .slice ak' m' ck']
  obtain ⟨w2, hw2⟩ : ∃ w2, (w.alloc (.cells #[.int .i64 k, .int .i64 n, .string s, .slice al ln cl, .slice ak m ck] 34)).alloc (.cells #[.int .i64 k', .int .i64 n', .string s', .slice al' ln' cl', .slice ak' m' ck'] 34) = w2 := ⟨_, rfl⟩
  rw [hw2] at TW
  obtain ⟨g, hg⟩ : ∃ g, w.heap.size = g := ⟨_, rfl⟩
  rw [hg] at TW
  have HT := hide TW
  have HV : Hid (∀ u, Below w2.heap.size w2 u → IsV u B v (.agg #[.int .i64 k, .int .i64 n, .string s, .slice al ln cl, .slice ak m ck]) ∧ IsV u B v' (.agg #[.int .i64 k', .int .i64 n', .string s', .slice al' ln' cl', .slice ak' m' ck']) ∧ B ≤ u.heap.size) :=
    hide (fun u hu => by
      have h1 : Below B w u := (TW.below.mono (by omega)).trans (hu.mono (by have := TW.size; omega))
      exact ⟨hv.mono h1, hv'.mono h1, by have := hu.size; have := TW.size; omega⟩)
  have HB : Hid (∀ u, Below w2.heap.size w2 u → Below w.heap.size w u) := hide (fun u hu => TW.below.trans (hu.mono (by have := TW.size; omega)))
  clear TW hv hv' hm hln hm' hln'
  have CR := fun u hu => hide (right_ref v _ B u (unhide HV u hu).1 (unhide HV u hu).2.2)
  have CR' := fun u hu => hide (right_ref v' _ B u (unhide HV u hu).2.1 (unhide HV u hu).2.2)
  have CO := fun h h' u hu => hide (rorder_any 8 v v' _ _ B u (right_ok h) (right_ok h') (unhide HV u hu).1 (unhide HV u hu).2.1 (unhide HV u hu).2.2)
  have X0 : Hid (Below w2.heap.size w2 w2) := hide (Below.refl _ _)
  obtain ⟨r0, r1⟩ := (unhide HT).later (unhide X0)
  obtain ⟨c0, c1, c2, c3, c4⟩ := row_cell r0
  obtain ⟨d0, d1, d2, d3, d4⟩ := row_cell r1
  clear r0 r1
  cases hR : rightB v with
  | false =>
    have HG : Hid (ord0 v v' = 0) := hide (by simp [ord0, hR])
    rw [hR] at CR
    obtain ⟨R2, hR2⟩ : ∃ R2, rightB v' = R2 := ⟨_, rfl⟩
    rw [hR2] at CR'
    clear hR CO hR2
    go_enter Try.func28, Try.ntmps28
    go_wp2_with fail
    refine (unhide (CR w2 (unhide X0))).mono ?_
    rintro e u1 ⟨rfl, b1⟩
    have X1 : Hid (Below w2.heap.size w2 u1) := hide ((unhide X0).trans (b1.mono (unhide X0).size))
    clear c0 c1 c2 c3 c4 d0 d1 d2 d3 d4
    obtain ⟨r0, r1⟩ := (unhide HT).later (unhide X1)
    obtain ⟨c0, c1, c2, c3, c4⟩ := row_cell r0
    obtain ⟨d0, d1, d2, d3, d4⟩ := row_cell r1
    clear r0 r1
    clear b1
    go_wp2_with fail
    refine (unhide (CR' u1 (unhide X1))).mono ?_
    rintro e u2 ⟨rfl, b2⟩
    have X2 : Hid (Below w2.heap.size w2 u2) := hide ((unhide X1).trans (b2.mono (unhide X1).size))
    clear c0 c1 c2 c3 c4 d0 d1 d2 d3 d4
    obtain ⟨r0, r1⟩ := (unhide HT).later (unhide X2)
    obtain ⟨c0, c1, c2, c3, c4⟩ := row_cell r0
    obtain ⟨d0, d1, d2, d3, d4⟩ := row_cell r1
    clear r0 r1
    clear b2
    go_wp2_with fail
    go_ret
    exact ⟨by rw [unhide HG]; rfl, by first | exact unhide HB _ (unhide X2) | (rw [← hg]; exact unhide HB _ (unhide X2))⟩
  | true =>
    rw [hR] at CR
    cases hR' : rightB v' with
    | false =>
      have HG : Hid (ord0 v v' = 0) := hide (by simp [ord0, hR'])
      rw [hR'] at CR'
      clear hR hR' CO
      go_enter Try.func28, Try.ntmps28
      go_wp2_with fail
      refine (unhide (CR w2 (unhide X0))).mono ?_
      rintro e u1 ⟨rfl, b1⟩
      have X1 : Hid (Below w2.heap.size w2 u1) := hide ((unhide X0).trans (b1.mono (unhide X0).size))
      clear c0 c1 c2 c3 c4 d0 d1 d2 d3 d4
      obtain ⟨r0, r1⟩ := (unhide HT).later (unhide X1)
      obtain ⟨c0, c1, c2, c3, c4⟩ := row_cell r0
      obtain ⟨d0, d1, d2, d3, d4⟩ := row_cell r1
      clear r0 r1
      clear b1
      go_wp2_with fail
      refine (unhide (CR' u1 (unhide X1))).mono ?_
      rintro e u2 ⟨rfl, b2⟩
      have X2 : Hid (Below w2.heap.size w2 u2) := hide ((unhide X1).trans (b2.mono (unhide X1).size))
      clear c0 c1 c2 c3 c4 d0 d1 d2 d3 d4
      obtain ⟨r0, r1⟩ := (unhide HT).later (unhide X2)
      obtain ⟨c0, c1, c2, c3, c4⟩ := row_cell r0
      obtain ⟨d0, d1, d2, d3, d4⟩ := row_cell r1
      clear r0 r1
      clear b2
      go_wp2_with fail
      go_ret
      exact ⟨by rw [unhide HG]; rfl, by first | exact unhide HB _ (unhide X2) | (rw [← hg]; exact unhide HB _ (unhide X2))⟩
    | true =>
      have HG : Hid (ord0 v v' = ord v v') := hide (by simp [ord0, hR, hR'])
      rw [hR'] at CR'
      have C3 := CO hR hR'
      obtain ⟨R, hRR⟩ : ∃ R, ord v v' = R := ⟨_, rfl⟩
      rw [hRR] at C3 HG
      clear hR hR' CO hRR
      go_enter Try.func28, Try.ntmps28
      go_wp2_with fail
      refine (unhide (CR w2 (unhide X0))).mono ?_
      rintro e u1 ⟨rfl, b1⟩
      have X1 : Hid (Below w2.heap.size w2 u1) := hide ((unhide X0).trans (b1.mono (unhide X0).size))
      clear c0 c1 c2 c3 c4 d0 d1 d2 d3 d4
      obtain ⟨r0, r1⟩ := (unhide HT).later (unhide X1)
      obtain ⟨c0, c1, c2, c3, c4⟩ := row_cell r0
      obtain ⟨d0, d1, d2, d3, d4⟩ := row_cell r1
      clear r0 r1
      clear b1
      go_wp2_with fail
      refine (unhide (CR' u1 (unhide X1))).mono ?_
      rintro e u2 ⟨rfl, b2⟩
      have X2 : Hid (Below w2.heap.size w2 u2) := hide ((unhide X1).trans (b2.mono (unhide X1).size))
      clear c0 c1 c2 c3 c4 d0 d1 d2 d3 d4
      obtain ⟨r0, r1⟩ := (unhide HT).later (unhide X2)
      obtain ⟨c0, c1, c2, c3, c4⟩ := row_cell r0
      obtain ⟨d0, d1, d2, d3, d4⟩ := row_cell r1
      clear r0 r1
      clear b2
      go_wp2_with fail
      refine (unhide (C3 u2 (unhide X2))).mono ?_
      rintro e u3 ⟨rfl, b3⟩
      have X3 : Hid (Below w2.heap.size w2 u3) := hide ((unhide X2).trans (b3.mono (unhide X2).size))
      clear c0 c1 c2 c3 c4 d0 d1 d2 d3 d4
      obtain ⟨r0, r1⟩ := (unhide HT).later (unhide X3)
      obtain ⟨c0, c1, c2, c3, c4⟩ := row_cell r0
      obtain ⟨d0, d1, d2, d3, d4⟩ := row_cell r1
      clear r0 r1
      clear b3
      go_wp2_with fail
      go_ret
      exact ⟨by rw [unhide HG]; rfl, by first | exact unhide HB _ (unhide X3) | (rw [← hg]; exact unhide HB _ (unhide X3))⟩

end Go.Proofs.Ytlmgiimgmjbkeaa

namespace Go.Proofs.Ytlmgiimgmjbkeaa
open Go.RowKit

set_option maxRecDepth 100000 in
set_option maxHeartbeats 400000 in
theorem weight_ref (v : Vl) (x : Value) (B : Nat) (w : World) (hv : IsV w B v x) (hBs : B ≤ w.heap.size) :
    Calls Try.prog 48 #[x] w fun e w' => e = .returned (.int .i64 (wt0 v : Int)) ∧ Below w.heap.size w w' := by
  obtain ⟨k', n', s', l', ks', al', ak', cl', ck', hy', hx⟩ := hv.shape
  obtain ⟨ll, hll⟩ : ∃ ll, l'.length = ll := ⟨_, rfl⟩
  obtain ⟨m, hm⟩ : ∃ m, ks'.length = m := ⟨_, rfl⟩
  rw [hll, hm] at hx
  subst hx
  obtain ⟨w1, hw1⟩ : ∃ w1, w.alloc (.cells #[.int .i64 k', .int .i64 n', .string s', .slice al' ll cl', .slice ak' m ck'] 34) = w1 := ⟨_, rfl⟩
  have BX := Box.mk' w (.int .i64 k') (.int .i64 n') (.string s') (.slice al' ll cl') (.slice ak' m ck')
  rw [hw1] at BX
  obtain ⟨c0, c1, c2, c3, c4⟩ := row_cell BX.row
  have z1 := BX.size
  have HB := hide BX.below
  have CW := hide (weighR_any 8 v _ 0 0 B w1 (by omega) (hv.mono (BX.below.mono hBs)) (by omega) (by omega))
  clear BX hv hy'
  cases hr : rightB v with
  | true =>
    have hz : wt0 v = wt v := by unfold wt0; rw [hr]; rfl
    have hwl : wt v ≤ 2048 := by
      unfold rightB at hr
      rw [Bool.and_eq_true, decide_eq_true_eq] at hr
      exact hr.2
    rw [(wgh_right v).2.1 hr] at CW
    obtain ⟨W, hW⟩ : ∃ W, wt v = W := ⟨_, rfl⟩
    rw [hW] at CW hz hwl
    rw [hz]
    have h1 : ¬ (2048 : Int) < (W : Int) := by omega
    clear hr hz hW
    go_enter Try.func48, Try.ntmps48
    go_wp2_with fail
    refine (unhide CW).mono ?_
    rintro e w2 ⟨rfl, b2⟩
    have B2 := hide b2
    clear b2 CW
    go_wp2_with fail
    go_ret
    exact ⟨rfl, (unhide HB).trans ((unhide B2).mono (by omega))⟩
  | false =>
    have hz : wt0 v = 0 := by unfold wt0; rw [hr]; rfl
    rw [(wgh_right v).2.2 hr] at CW
    rw [hz]
    clear hr hz
    go_enter Try.func48, Try.ntmps48
    go_wp2_with fail
    refine (unhide CW).mono ?_
    rintro e w2 ⟨rfl, b2⟩
    have B2 := hide b2
    clear b2 CW
    go_wp2_with fail
    go_ret
    exact ⟨rfl, (unhide HB).trans ((unhide B2).mono (by omega))⟩
end Go.Proofs.Ytlmgiimgmjbkeaa

namespace Go.Proofs.Ytlmgiimgmjbkeaa
open Go.RowKit
set_option linter.unusedVariables false
set_option linter.unusedSimpArgs false

theorem toList_injZ {a b : ByteArray} (h : a.toList = b.toList) : a = b := by
  rw [ByteArray.toList_eq, ByteArray.toList_eq] at h
  exact Go.WideShapes.bytes_inj h

theorem form_ks {k n : Int} {s : ByteArray} {ll : Nat} {ks : List ByteArray} (h : formB k n s ll ks = true) : (k = 5 ∧ ks.length = ll) ∨ (k ≠ 5 ∧ ks = []) := by
  unfold formB formM at h
  by_cases k5 : k = 5
  · subst k5
    simp at h
    exact .inl ⟨rfl, by omega⟩
  · refine .inr ⟨k5, ?_⟩
    repeat' split at h
    all_goals simp_all

def ZeroAt (d : Nat) : Prop := ∀ v v', okB d v = true → okB d v' = true → ord v v' = 0 → v = v'

theorem lex_zero {x y : Int} (h : (if x ≠ 0 then x else y) = 0) : x = 0 ∧ y = 0 := by
  by_cases hx : x = 0
  · rw [if_neg (by omega)] at h; exact ⟨hx, h⟩
  · rw [if_pos hx] at h; exact absurd h hx

theorem ordL_zero {d : Nat} (ih : ZeroAt d) (r : Bool) : ∀ (l : List Vl) (ks : List ByteArray) (l' : List Vl) (ks' : List ByteArray), okL d l = true → okL d l' = true → (r = true → ks.length = l.length ∧ ks'.length = l'.length) → ordL r l ks l' ks' = 0 → l = l' ∧ (r = true → ks = ks')
  | [], ks, [], ks', _, _, hk, _ => ⟨rfl, fun hr => by
      obtain ⟨h1, h2⟩ := hk hr
      rw [List.eq_nil_of_length_eq_zero h1, List.eq_nil_of_length_eq_zero h2]⟩
  | [], _, _ :: _, _, _, _, _, h => by simp [ordL] at h
  | _ :: _, _, [], _, _, _, _, h => by simp [ordL] at h
  | x :: xs, ks, y :: ys, ks', h1, h2, hk, h => by
    rw [okL_cons, Bool.and_eq_true] at h1 h2
    rw [ordL_cons] at h
    cases r with
    | false =>
      simp only [Bool.false_eq_true, false_and, if_false] at h
      obtain ⟨e1, e2⟩ := lex_zero h
      have e3 := ih x y h1.1 h2.1 e1
      have e4 := ordL_zero ih false xs ks.tail ys ks'.tail h1.2 h2.2 (fun hr => by cases hr) e2
      exact ⟨by rw [e3, e4.1], fun hr => by cases hr⟩
    | true =>
      simp only [true_and] at h
      obtain ⟨e0, h⟩ := lex_zero h
      obtain ⟨e1, e2⟩ := lex_zero h
      obtain ⟨k1, k2⟩ := hk rfl
      have e3 := ih x y h1.1 h2.1 e1
      have e4 := ordL_zero ih true xs ks.tail ys ks'.tail h1.2 h2.2 (fun _ => by rw [List.length_tail, List.length_tail, k1, k2]; exact ⟨rfl, rfl⟩) e2
      refine ⟨by rw [e3, e4.1], fun _ => ?_⟩
      cases ks with
      | nil => simp at k1
      | cons t tr =>
        cases ks' with
        | nil => simp at k2
        | cons t' tr' =>
          have e5 := toList_injZ ((cmpS_zero _ _).1 e0)
          have e6 := e4.2 rfl
          simp only [List.headD_cons] at e5
          simp only [List.tail_cons] at e6
          rw [e5, e6]

theorem ord_zero : ∀ d, ZeroAt d
  | 0 => fun v v' h => by cases v; simp [okB] at h
  | d + 1 => fun v v' h h' e => by
    cases v with
    | mk k n s l ks =>
      cases v' with
      | mk k' n' s' l' ks' =>
        rw [okB, Bool.and_eq_true] at h h'
        unfold ord at e
        obtain ⟨e1, x1⟩ := lex_zero e
        obtain ⟨e2, x2⟩ := lex_zero x1
        obtain ⟨e3, x3⟩ := lex_zero x2
        clear e x1 x2
        have g1 := cmpI_zero e1
        have g2 := cmpI_zero e2
        have g3 := toList_injZ ((cmpS_zero _ _).1 e3)
        clear e1 e2 e3
        subst g1 g2 g3
        have f1 := form_ks h.1
        have f2 := form_ks h'.1
        obtain ⟨e4, e5⟩ := ordL_zero (ord_zero d) (decide (k = 5)) l ks l' ks' h.2 h'.2 (fun hr => by
          have hr := of_decide_eq_true hr
          rcases f1 with f1 | f1
          · rcases f2 with f2 | f2
            · exact ⟨f1.2, f2.2⟩
            · exact absurd hr f2.1
          · exact absurd hr f1.1) x3
        subst e4
        rcases f1 with f1 | f1
        · rw [e5 (decide_eq_true f1.1)]
        · rcases f2 with f2 | f2
          · exact absurd f2.1 f1.1
          · rw [f1.2, f2.2]

theorem ord0_zero {v v' : Vl} (h : rightB v = true) (h' : rightB v' = true) : ord0 v v' = 0 ↔ v = v' := by
  unfold ord0
  rw [h, h']
  constructor
  · intro e
    exact ord_zero 8 v v' (right_ok h) (right_ok h') e
  · intro e
    subst e
    exact ord_self v
end Go.Proofs.Ytlmgiimgmjbkeaa

namespace Go.Proofs.Ytlmgiimgmjbkeaa
open Go.RowKit
set_option linter.unusedVariables false
set_option linter.unusedSimpArgs false

theorem add_at0 (b j : Nat) : (⟨b, 0, none⟩ : Addr).add j = ⟨b, j, none⟩ := by
  unfold Addr.add
  split <;> simp_all

theorem keys_own {w : World} {P : Nat → Prop} {base : Nat} {kind n : Int} {s : ByteArray} {l : List Vl} {ks : List ByteArray} {al ak : Option Addr} {cl ck : Nat} {V : Nat → List Value} (hk : TyK w P ak ks.length ck) (hf : VF w P kind n s l ks al ak cl ck V) (hb : ∀ b, P b → base ≤ b) :
    w.ownsRow base 9 1 (.slice ak ks.length ck) ks.length (ks.map Value.string) := by
  refine ⟨by simp, ?_⟩
  rcases hk with ⟨rfl, h0, rfl⟩ | ⟨b, cs, rfl, hp, hg, hs, hm, hc, _⟩
  · exact .inl ⟨by rw [h0], h0⟩
  · refine .inr ⟨b, ck, cs, rfl, hb b hp, hg, hm, hc, by omega, ?_⟩
    apply List.ext_getElem?
    intro i
    rw [Nat.mul_one, List.getElem?_take]
    by_cases hi : i < ks.length
    · rw [if_pos hi, List.getElem?_map, List.getElem?_eq_getElem hi]
      have h1 := (hf.hk _ rfl i ks[i] (List.getElem?_eq_getElem hi)).2
      rw [add_at0, cell_of_row w b i cs 9 (0, 0) hg] at h1
      simpa using h1
    · rw [if_neg hi, List.getElem?_eq_none (by simpa using Nat.le_of_not_lt hi)]

theorem els_own {w : World} {P : Nat → Prop} {R : Value → Prop} {base : Nat} {kind n : Int} {s : ByteArray} {l : List Vl} {ks : List ByteArray} {al ak : Option Addr} {cl ck : Nat} {V : Nat → List Value} (hk : TyL w P R al l.length cl) (hf : VF w P kind n s l ks al ak cl ck V) (hb : ∀ b, P b → base ≤ b) :
    w.ownsRow base 34 5 (.slice al l.length cl) l.length (flat V l.length) := by
  refine ⟨flat_len V l.length hf.hv, ?_⟩
  rcases hk with ⟨rfl, h0, rfl⟩ | ⟨b, cs, rfl, hp, hg, hs, hm, hc, _⟩
  · exact .inl ⟨by rw [h0], h0⟩
  · refine .inr ⟨b, cl, cs, rfl, hb b hp, hg, hm, hc, hs, ?_⟩
    have hfl := flat_len V l.length hf.hv
    apply List.ext_getElem?
    intro q
    rw [List.getElem?_take]
    by_cases hq : q < l.length * 5
    · rw [if_pos hq]
      have h5 := hf.hv (q / 5) (by omega)
      have h1 := (hf.hl _ rfl (q / 5) (by omega)).2 (q % 5) ((V (q / 5))[q % 5]'(by omega)) (List.getElem?_eq_getElem (by omega))
      have h2 := flat_at V l.length hf.hv (q / 5) (by omega) (q % 5) ((V (q / 5))[q % 5]'(by omega)) (List.getElem?_eq_getElem (by omega))
      have e : q / 5 * 5 + q % 5 = q := by omega
      rw [e] at h2
      rw [h2]
      have ea : ((⟨b, 0, none⟩ : Addr).add (q / 5 * 5)).add (q % 5) = ⟨b, q, none⟩ := by
        rw [add_at0]
        unfold Addr.add
        split
        all_goals (simp; try omega)
      rw [ea, cell_of_row w b q cs _ (0, 0) hg] at h1
      simpa using h1
    · rw [if_neg hq, List.getElem?_eq_none (by omega)]

/-- a value that is its owner's: its two rows, and what its elements are -/
theorem IsQ.rows {w : World} {P : Nat → Prop} {base : Nat} {kind n k' n' : Int} {s s' : ByteArray} {l : List Vl} {ks : List ByteArray} {al ak : Option Addr} {ll m cl ck : Nat} (h : IsQ w P (.mk kind n s l ks) (.agg #[.int .i64 k', .int .i64 n', .string s', .slice al ll cl, .slice ak m ck])) (hb : ∀ b, P b → base ≤ b) :
    ll = l.length ∧ m = ks.length ∧ ∃ V, w.ownsRow base 34 5 (.slice al l.length cl) l.length (flat V l.length) ∧ w.ownsRow base 9 1 (.slice ak ks.length ck) ks.length (ks.map Value.string) ∧ VF w P kind n s l ks al ak cl ck V ∧ ∀ i y, l[i]? = some y → IsP w P y (.agg (V i).toArray) := by
  obtain ⟨rfl, rfl, rfl, rfl, rfl, V, hf, el⟩ := h.1.at
  have hd := dep_pos (.mk k' n' s' l ks)
  obtain ⟨r, hr⟩ : ∃ r, dep (.mk k' n' s' l ks) = r + 1 := ⟨dep (.mk k' n' s' l ks) - 1, by omega⟩
  have ht := h.2
  rw [hr] at ht
  obtain ⟨_, _, _, _, _, _, _, _, _, e, hl, hk⟩ := ht
  simp only [Value.agg.injEq, Array.mk.injEq, List.cons.injEq, Value.int.injEq, Value.string.injEq, Value.slice.injEq, and_true, true_and] at e
  obtain ⟨_, _, _, ⟨rfl, rfl, rfl⟩, rfl, rfl, rfl⟩ := e
  exact ⟨rfl, rfl, V, els_own hl hf hb, keys_own hk hf hb, hf, el⟩
end Go.Proofs.Ytlmgiimgmjbkeaa

namespace Go.Proofs.Ytlmgiimgmjbkeaa
open Go.RowKit
set_option linter.unusedVariables false
set_option linter.unusedSimpArgs false

/-- append of one element that was just laid -/
theorem wpl_oneG {P : Program} {w : World} {ops : Array Oper} {rest : List Oper} {o : Oper} {a : Act} {Q : Exit → Act → World → Prop} (hgd : o.guard = none) (sl x : Operand) (T e : TypeId) (i0 : TypeInfo) (z : Value) (size bytes : Nat)
    (hu : P.underlying T = some (.slice e)) (hi : P.info? e = some i0) (hz : i0.zero = some z) (hs1 : i0.size = size) (hby : i0.bytes = bytes) (hzs : z.cells.size = size) (hsz : 0 < size)
    (ho : o.op = .call { callee := .builtin .append, args := #[sl, x], argTypes := #[T, T] })
    (base n : Nat) (v : Value) (xs : List Value) (A : List Value) (hA : A.length = size) (h1 : ∀ u ∈ A, u.oneCell' = true) (hs : a.eval sl = v) (hown : w.ownsRow base e size v n xs)
    (hx : a.eval x = .slice (some ⟨w.heap.size, 0, none⟩) 1 1) (hn : n + 1 ≤ maxLen) (hbytes : (n + 1) * bytes ≤ 140737488355328) (hbase : base ≤ w.heap.size)
    (h : ∀ v' w', Hid (w'.ownsRow base e size v' (n + 1) (xs ++ A) ∧ w.grownBy w' v.ownBlock ∧ ∀ b, v'.ownBlock = some b → v.ownBlock = some b ∨ w.heap.size ≤ b) → wpList P ops Q rest (a.put o.dst v') w') :
    wpList P ops Q (o :: rest) a (w.alloc (.cells A.toArray e)) := by
  refine wpList_plain hgd fun K hK => ?_
  have hb : Below w.heap.size w (w.alloc (.cells A.toArray e)) := (Below.refl _ _).alloc (Nat.le_refl _) _
  have hnew := heap_alloc_new w (.cells A.toArray e)
  have hz1 : (w.alloc (.cells A.toArray e)).heap.size = w.heap.size + 1 := by simp
  obtain ⟨v', w', hrun, r1, r2, _, r4⟩ := run_append_own_at (P := P) (w.alloc (.cells A.toArray e)) base T o.type e i0 z size bytes hu hi hz hs1 hby hzs hsz v n xs (hown.alloc _) ⟨w.heap.size, 0, none⟩ 1 1 A (by omega) (fun j u hj => World.news_of_block hnew j u (by simpa using hj)) h1 hn hbytes (by omega)
  unfold Oper.wp
  simp only [execOp, ho, resolve, invoke, builtin, Sem.run_bind, Sem.run_pure, Result.andThen_ok, List.map_toArray, List.map_cons, List.map_nil, hs, hx, hrun]
  refine hK _ _ (h v' w' ⟨r1, ⟨r2.os, r2.tape, r2.output, by have := r2.size; omega, fun k hk hne => (r2.block k (by omega) hne).trans (heap_alloc_old w _ hk)⟩, fun b hb' => ?_⟩)
  rcases r4 with e' | e'
  · exact Or.inl (by rw [← e']; exact hb')
  · rw [hb'] at e'
    exact Or.inr (by rw [Option.some.inj e', hz1]; omega)

end Go.Proofs.Ytlmgiimgmjbkeaa

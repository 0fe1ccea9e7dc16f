/-
  The walk of Compare; no conditions but the form's own reach.
  Of right values only one and the same stand level; no conditions.
-/
import Derived.Test.YtjhnbopejnpbeaaA18
import Derived.Test.YtjhnbopejnpbeaaA03
import Derived.WideShapes
set_option linter.unusedVariables false
set_option linter.unusedSimpArgs false
namespace Go.Proofs.Ytjhnbopejnpbeaa
open Go.RowKit

def ord0 (v v' : Vl) : Int := if (rightB v && rightB v') = true then ord v v' else 0

theorem ord0_self (v : Vl) : ord0 v v = 0 := by unfold ord0; split <;> simp [ord_self]

theorem right_ok {v : Vl} (h : rightB v = true) : okB 8 v = true := by
  unfold rightB at h
  rw [Bool.and_eq_true] at h
  exact h.1

set_option maxRecDepth 100000 in
set_option maxHeartbeats 400000 in
theorem compare_code (v v' : Vl) (x x' : Value) (B : Nat) (w : World) (hv : IsV w B v x) (hv' : IsV w B v' x') (hBs : B ≤ w.heap.size) :
    Calls Try.prog 24 #[x, x'] w fun e w' => e = .returned (.int .i64 (ord0 v v')) ∧ Below w.heap.size w w' := by
  obtain ⟨k, n, s, l, ks, al, ak, cl, ck, _, hx⟩ := hv.shape
  obtain ⟨k', n', s', l', ks', al', ak', cl', ck', _, hx'⟩ := hv'.shape
  obtain ⟨m, hm⟩ : ∃ m, ks.length = m := ⟨_, rfl⟩
  obtain ⟨ln, hln⟩ : ∃ ln, l.length = ln := ⟨_, rfl⟩
  obtain ⟨m', hm'⟩ : ∃ m', ks'.length = m' := ⟨_, rfl⟩
  obtain ⟨ln', hln'⟩ : ∃ ln', l'.length = ln' := ⟨_, rfl⟩
  rw [hm, hln] at hx
  rw [hm', hln'] at hx'
  subst hx
  subst hx'
  have TW := TwoO.mk' w 34 #[.int .i64 k, .int .i64 n, .string s, .slice al ln cl, .slice ak m ck] #[.int .i64 k', .int .i64 n', .string s', .slice al' ln' cl', .slice ak' m' ck']
  obtain ⟨w2, hw2⟩ : ∃ w2, (w.alloc (.cells #[.int .i64 k, .int .i64 n, .string s, .slice al ln cl, .slice ak m ck] 34)).alloc (.cells #[.int .i64 k', .int .i64 n', .string s', .slice al' ln' cl', .slice ak' m' ck'] 34) = w2 := ⟨_, rfl⟩
  rw [hw2] at TW
  obtain ⟨g, hg⟩ : ∃ g, w.heap.size = g := ⟨_, rfl⟩
  rw [hg] at TW
  have HT := hide TW
  have HV : Hid (∀ u, Below w2.heap.size w2 u → IsV u B v (.agg #[.int .i64 k, .int .i64 n, .string s, .slice al ln cl, .slice ak m ck]) ∧ IsV u B v' (.agg #[.int .i64 k', .int .i64 n', .string s', .slice al' ln' cl', .slice ak' m' ck']) ∧ B ≤ u.heap.size) :=
    hide (fun u hu => by
      have h1 : Below B w u := (TW.below.mono (by omega)).trans (hu.mono (by have := TW.size; omega))
      exact ⟨hv.mono h1, hv'.mono h1, by have := hu.size; have := TW.size; omega⟩)
  have HB : Hid (∀ u, Below w2.heap.size w2 u → Below w.heap.size w u) := hide (fun u hu => TW.below.trans (hu.mono (by have := TW.size; omega)))
  clear TW hv hv' hm hln hm' hln'
  have CR := fun u hu => hide (right_code v _ B u (unhide HV u hu).1 (unhide HV u hu).2.2)
  have CR' := fun u hu => hide (right_code v' _ B u (unhide HV u hu).2.1 (unhide HV u hu).2.2)
  have CO := fun h h' u hu => hide (order_any 8 v v' _ _ B u (right_ok h) (right_ok h') (unhide HV u hu).1 (unhide HV u hu).2.1 (unhide HV u hu).2.2)
  have X0 : Hid (Below w2.heap.size w2 w2) := hide (Below.refl _ _)
  obtain ⟨r0, r1⟩ := (unhide HT).later (unhide X0)
  obtain ⟨c0, c1, c2, c3, c4⟩ := row_cell r0
  obtain ⟨d0, d1, d2, d3, d4⟩ := row_cell r1
  clear r0 r1
  cases hR : rightB v with
  | false =>
    have HG : Hid (ord0 v v' = 0) := hide (by simp [ord0, hR])
    rw [hR] at CR
    clear hR CO
    go_enter Try.func24, Try.ntmps24
    go_wp2_with fail
    refine (unhide (CR w2 (unhide X0))).mono ?_
    rintro e u1 ⟨rfl, b1⟩
    have X1 : Hid (Below w2.heap.size w2 u1) := hide b1
    clear b1 CR
    go_wp2_with fail
    go_ret
    exact ⟨by rw [unhide HG]; rfl, by first | exact unhide HB _ (unhide X1) | (rw [← hg]; exact unhide HB _ (unhide X1))⟩
  | true =>
    rw [hR] at CR
    cases hR' : rightB v' with
    | false =>
      have HG : Hid (ord0 v v' = 0) := hide (by simp [ord0, hR'])
      rw [hR'] at CR'
      clear hR hR' CO
      go_enter Try.func24, Try.ntmps24
      go_wp2_with fail
      refine (unhide (CR w2 (unhide X0))).mono ?_
      rintro e u1 ⟨rfl, b1⟩
      have X1 : Hid (Below w2.heap.size w2 u1) := hide ((unhide X0).trans (b1.mono (unhide X0).size))
      clear c0 c1 c2 c3 c4 d0 d1 d2 d3 d4
      obtain ⟨r0, r1⟩ := (unhide HT).later (unhide X1)
      obtain ⟨c0, c1, c2, c3, c4⟩ := row_cell r0
      obtain ⟨d0, d1, d2, d3, d4⟩ := row_cell r1
      clear r0 r1
      clear b1
      go_wp2_with fail
      refine (unhide (CR' u1 (unhide X1))).mono ?_
      rintro e u2 ⟨rfl, b2⟩
      have X2 : Hid (Below w2.heap.size w2 u2) := hide ((unhide X1).trans (b2.mono (unhide X1).size))
      clear c0 c1 c2 c3 c4 d0 d1 d2 d3 d4
      obtain ⟨r0, r1⟩ := (unhide HT).later (unhide X2)
      obtain ⟨c0, c1, c2, c3, c4⟩ := row_cell r0
      obtain ⟨d0, d1, d2, d3, d4⟩ := row_cell r1
      clear r0 r1
      clear b2
      go_wp2_with fail
      go_ret
      exact ⟨by rw [unhide HG]; rfl, by first | exact unhide HB _ (unhide X2) | (rw [← hg]; exact unhide HB _ (unhide X2))⟩
    | true =>
      have HG : Hid (ord0 v v' = ord v v') := hide (by simp [ord0, hR, hR'])
      rw [hR'] at CR'
      have C3 := CO hR hR'
      obtain ⟨R, hRR⟩ : ∃ R, ord v v' = R := ⟨_, rfl⟩
      rw [hRR] at C3 HG
      clear hR hR' CO hRR
      go_enter Try.func24, Try.ntmps24
      go_wp2_with fail
      refine (unhide (CR w2 (unhide X0))).mono ?_
      rintro e u1 ⟨rfl, b1⟩
      have X1 : Hid (Below w2.heap.size w2 u1) := hide ((unhide X0).trans (b1.mono (unhide X0).size))
      clear c0 c1 c2 c3 c4 d0 d1 d2 d3 d4
      obtain ⟨r0, r1⟩ := (unhide HT).later (unhide X1)
      obtain ⟨c0, c1, c2, c3, c4⟩ := row_cell r0
      obtain ⟨d0, d1, d2, d3, d4⟩ := row_cell r1
      clear r0 r1
      clear b1
      go_wp2_with fail
      refine (unhide (CR' u1 (unhide X1))).mono ?_
      rintro e u2 ⟨rfl, b2⟩
      have X2 : Hid (Below w2.heap.size w2 u2) := hide ((unhide X1).trans (b2.mono (unhide X1).size))
      clear c0 c1 c2 c3 c4 d0 d1 d2 d3 d4
      obtain ⟨r0, r1⟩ := (unhide HT).later (unhide X2)
      obtain ⟨c0, c1, c2, c3, c4⟩ := row_cell r0
      obtain ⟨d0, d1, d2, d3, d4⟩ := row_cell r1
      clear r0 r1
      clear b2
      go_wp2_with fail
      refine (unhide (C3 u2 (unhide X2))).mono ?_
      rintro e u3 ⟨rfl, b3⟩
      have X3 : Hid (Below w2.heap.size w2 u3) := hide ((unhide X2).trans (b3.mono (unhide X2).size))
      clear c0 c1 c2 c3 c4 d0 d1 d2 d3 d4
      obtain ⟨r0, r1⟩ := (unhide HT).later (unhide X3)
      obtain ⟨c0, c1, c2, c3, c4⟩ := row_cell r0
      obtain ⟨d0, d1, d2, d3, d4⟩ := row_cell r1
      clear r0 r1
      clear b3
      go_wp2_with fail
      go_ret
      exact ⟨by rw [unhide HG]; rfl, by first | exact unhide HB _ (unhide X3) | (rw [← hg]; exact unhide HB _ (unhide X3))⟩
end Go.Proofs.Ytjhnbopejnpbeaa

namespace Go.Proofs.Ytjhnbopejnpbeaa
open Go.RowKit
set_option linter.unusedVariables false
set_option linter.unusedSimpArgs false

theorem toList_injZ {a b : ByteArray} (h : a.toList = b.toList) : a = b := by
  rw [ByteArray.toList_eq, ByteArray.toList_eq] at h
  exact Go.WideShapes.bytes_inj h

theorem form_ks {k n : Int} {s : ByteArray} {ll : Nat} {ks : List ByteArray} (h : formB k n s ll ks = true) : (k = 5 ∧ ks.length = ll) ∨ (k ≠ 5 ∧ ks = []) := by
  unfold formB formM at h
  by_cases k5 : k = 5
  · subst k5
    simp at h
    exact .inl ⟨rfl, by omega⟩
  · refine .inr ⟨k5, ?_⟩
    repeat' split at h
    all_goals simp_all

def ZeroAt (d : Nat) : Prop := ∀ v v', okB d v = true → okB d v' = true → ord v v' = 0 → v = v'

theorem lex_zero {x y : Int} (h : (if x ≠ 0 then x else y) = 0) : x = 0 ∧ y = 0 := by
  by_cases hx : x = 0
  · rw [if_neg (by omega)] at h; exact ⟨hx, h⟩
  · rw [if_pos hx] at h; exact absurd h hx

theorem ordL_zero {d : Nat} (ih : ZeroAt d) (r : Bool) : ∀ (l : List Vl) (ks : List ByteArray) (l' : List Vl) (ks' : List ByteArray), okL d l = true → okL d l' = true → (r = true → ks.length = l.length ∧ ks'.length = l'.length) → ordL r l ks l' ks' = 0 → l = l' ∧ (r = true → ks = ks')
  | [], ks, [], ks', _, _, hk, _ => ⟨rfl, fun hr => by
      obtain ⟨h1, h2⟩ := hk hr
      rw [List.eq_nil_of_length_eq_zero h1, List.eq_nil_of_length_eq_zero h2]⟩
  | [], _, _ :: _, _, _, _, _, h => by simp [ordL] at h
  | _ :: _, _, [], _, _, _, _, h => by simp [ordL] at h
  | x :: xs, ks, y :: ys, ks', h1, h2, hk, h => by
    rw [okL_cons, Bool.and_eq_true] at h1 h2
    rw [ordL_cons] at h
    cases r with
    | false =>
      simp only [Bool.false_eq_true, false_and, if_false] at h
      obtain ⟨e1, e2⟩ := lex_zero h
      have e3 := ih x y h1.1 h2.1 e1
      have e4 := ordL_zero ih false xs ks.tail ys ks'.tail h1.2 h2.2 (fun hr => by cases hr) e2
      exact ⟨by rw [e3, e4.1], fun hr => by cases hr⟩
    | true =>
      simp only [true_and] at h
      obtain ⟨e0, h⟩ := lex_zero h
      obtain ⟨e1, e2⟩ := lex_zero h
      obtain ⟨k1, k2⟩ := hk rfl
      have e3 := ih x y h1.1 h2.1 e1
      have e4 := ordL_zero ih true xs ks.tail ys ks'.tail h1.2 h2.2 (fun _ => by rw [List.length_tail, List.length_tail, k1, k2]; exact ⟨rfl, rfl⟩) e2
      refine ⟨by rw [e3, e4.1], fun _ => ?_⟩
      cases ks with
      | nil => simp at k1
      | cons t tr =>
        cases ks' with
        | nil => simp at k2
        | cons t' tr' =>
          have e5 := toList_injZ ((cmpS_zero _ _).1 e0)
          have e6 := e4.2 rfl
          simp only [List.headD_cons] at e5
          simp only [List.tail_cons] at e6
          rw [e5, e6]

theorem ord_zero : ∀ d, ZeroAt d
  | 0 => fun v v' h => by cases v; simp [okB] at h
  | d + 1 => fun v v' h h' e => by
    cases v with
    | mk k n s l ks =>
      cases v' with
      | mk k' n' s' l' ks' =>
        rw [okB, Bool.and_eq_true] at h h'
        unfold ord at e
        obtain ⟨e1, x1⟩ := lex_zero e
        obtain ⟨e2, x2⟩ := lex_zero x1
        obtain ⟨e3, x3⟩ := lex_zero x2
        clear e x1 x2
        have g1 := cmpI_zero e1
        have g2 := cmpI_zero e2
        have g3 := toList_injZ ((cmpS_zero _ _).1 e3)
        clear e1 e2 e3
        subst g1 g2 g3
        have f1 := form_ks h.1
        have f2 := form_ks h'.1
        obtain ⟨e4, e5⟩ := ordL_zero (ord_zero d) (decide (k = 5)) l ks l' ks' h.2 h'.2 (fun hr => by
          have hr := of_decide_eq_true hr
          rcases f1 with f1 | f1
          · rcases f2 with f2 | f2
            · exact ⟨f1.2, f2.2⟩
            · exact absurd hr f2.1
          · exact absurd hr f1.1) x3
        subst e4
        rcases f1 with f1 | f1
        · rw [e5 (decide_eq_true f1.1)]
        · rcases f2 with f2 | f2
          · exact absurd f2.1 f1.1
          · rw [f1.2, f2.2]

theorem ord0_zero {v v' : Vl} (h : rightB v = true) (h' : rightB v' = true) : ord0 v v' = 0 ↔ v = v' := by
  unfold ord0
  rw [h, h']
  constructor
  · intro e
    exact ord_zero 8 v v' (right_ok h) (right_ok h') e
  · intro e
    subst e
    exact ord_self v
end Go.Proofs.Ytjhnbopejnpbeaa

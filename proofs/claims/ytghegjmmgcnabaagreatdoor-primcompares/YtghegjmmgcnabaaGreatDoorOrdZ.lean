/-
  Of right values only one and the same stand level; no conditions.
-/
import Derived.Test.YtghegjmmgcnabaaGreatDoorVCompC
import Derived.WideShapes
namespace Go.Proofs.YtghegjmmgcnabaaGreatDoor
open Go.RowKit
set_option linter.unusedVariables false
set_option linter.unusedSimpArgs false

theorem toList_injZ {a b : ByteArray} (h : a.toList = b.toList) : a = b := by
  rw [ByteArray.toList_eq, ByteArray.toList_eq] at h
  exact Go.WideShapes.bytes_inj h

theorem form_ks {k n : Int} {s : ByteArray} {ll : Nat} {ks : List ByteArray} (h : formB k n s ll ks = true) : (k = 5 ∧ ks.length = ll) ∨ (k ≠ 5 ∧ ks = []) := by
  unfold formB formM at h
  by_cases k5 : k = 5
  · subst k5
    simp at h
    exact .inl ⟨rfl, by omega⟩
  · refine .inr ⟨k5, ?_⟩
    repeat' split at h
    all_goals simp_all

def ZeroAt (d : Nat) : Prop := ∀ v v', okB d v = true → okB d v' = true → ord v v' = 0 → v = v'

theorem lex_zero {x y : Int} (h : (if x ≠ 0 then x else y) = 0) : x = 0 ∧ y = 0 := by
  by_cases hx : x = 0
  · rw [if_neg (by omega)] at h; exact ⟨hx, h⟩
  · rw [if_pos hx] at h; exact absurd h hx

theorem ordL_zero {d : Nat} (ih : ZeroAt d) (r : Bool) : ∀ (l : List Vl) (ks : List ByteArray) (l' : List Vl) (ks' : List ByteArray), okL d l = true → okL d l' = true → (r = true → ks.length = l.length ∧ ks'.length = l'.length) → ordL r l ks l' ks' = 0 → l = l' ∧ (r = true → ks = ks')
  | [], ks, [], ks', _, _, hk, _ => ⟨rfl, fun hr => by
      obtain ⟨h1, h2⟩ := hk hr
      rw [List.eq_nil_of_length_eq_zero h1, List.eq_nil_of_length_eq_zero h2]⟩
  | [], _, _ :: _, _, _, _, _, h => by simp [ordL] at h
  | _ :: _, _, [], _, _, _, _, h => by simp [ordL] at h
  | x :: xs, ks, y :: ys, ks', h1, h2, hk, h => by
    rw [okL_cons, Bool.and_eq_true] at h1 h2
    rw [ordL_cons] at h
    cases r with
    | false =>
      simp only [Bool.false_eq_true, false_and, if_false] at h
      obtain ⟨e1, e2⟩ := lex_zero h
      have e3 := ih x y h1.1 h2.1 e1
      have e4 := ordL_zero ih false xs ks.tail ys ks'.tail h1.2 h2.2 (fun hr => by cases hr) e2
      exact ⟨by rw [e3, e4.1], fun hr => by cases hr⟩
    | true =>
      simp only [true_and] at h
      obtain ⟨e0, h⟩ := lex_zero h
      obtain ⟨e1, e2⟩ := lex_zero h
      obtain ⟨k1, k2⟩ := hk rfl
      have e3 := ih x y h1.1 h2.1 e1
      have e4 := ordL_zero ih true xs ks.tail ys ks'.tail h1.2 h2.2 (fun _ => by rw [List.length_tail, List.length_tail, k1, k2]; exact ⟨rfl, rfl⟩) e2
      refine ⟨by rw [e3, e4.1], fun _ => ?_⟩
      cases ks with
      | nil => simp at k1
      | cons t tr =>
        cases ks' with
        | nil => simp at k2
        | cons t' tr' =>
          have e5 := toList_injZ ((cmpS_zero _ _).1 e0)
          have e6 := e4.2 rfl
          simp only [List.headD_cons] at e5
          simp only [List.tail_cons] at e6
          rw [e5, e6]

theorem ord_zero : ∀ d, ZeroAt d
  | 0 => fun v v' h => by cases v; simp [okB] at h
  | d + 1 => fun v v' h h' e => by
    cases v with
    | mk k n s l ks =>
      cases v' with
      | mk k' n' s' l' ks' =>
        rw [okB, Bool.and_eq_true] at h h'
        unfold ord at e
        obtain ⟨e1, x1⟩ := lex_zero e
        obtain ⟨e2, x2⟩ := lex_zero x1
        obtain ⟨e3, x3⟩ := lex_zero x2
        clear e x1 x2
        have g1 := cmpI_zero e1
        have g2 := cmpI_zero e2
        have g3 := toList_injZ ((cmpS_zero _ _).1 e3)
        clear e1 e2 e3
        subst g1 g2 g3
        have f1 := form_ks h.1
        have f2 := form_ks h'.1
        obtain ⟨e4, e5⟩ := ordL_zero (ord_zero d) (decide (k = 5)) l ks l' ks' h.2 h'.2 (fun hr => by
          have hr := of_decide_eq_true hr
          rcases f1 with f1 | f1
          · rcases f2 with f2 | f2
            · exact ⟨f1.2, f2.2⟩
            · exact absurd hr f2.1
          · exact absurd hr f1.1) x3
        subst e4
        rcases f1 with f1 | f1
        · rw [e5 (decide_eq_true f1.1)]
        · rcases f2 with f2 | f2
          · exact absurd f2.1 f1.1
          · rw [f1.2, f2.2]

theorem ord0_zero {v v' : Vl} (h : rightB v = true) (h' : rightB v' = true) : ord0 v v' = 0 ↔ v = v' := by
  unfold ord0
  rw [h, h']
  constructor
  · intro e
    exact ord_zero 8 v v' (right_ok h) (right_ok h') e
  · intro e
    subst e
    exact ord_self v
end Go.Proofs.YtghegjmmgcnabaaGreatDoor

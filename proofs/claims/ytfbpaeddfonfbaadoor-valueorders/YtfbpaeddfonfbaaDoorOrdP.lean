/-
  The order of values and their texts, as functions: an order, 0 just where the texts are the same; conditions: right values.
-/
import Derived.Test.YtfbpaeddfonfbaaDoorVCompare
import Derived.Test.YtfbpaeddfonfbaaDoorBQuo0
import Derived.Test.YtfbpaeddfonfbaaDoorPPrt
namespace Go.Proofs.YtfbpaeddfonfbaaDoor
open Go.RowKit
set_option linter.unusedVariables false
set_option linter.unusedSimpArgs false

/-- three signs that fit -/
def Tr (x y z : Int) : Prop := (x ≤ 0 → y ≤ 0 → z ≤ 0) ∧ (0 ≤ x → 0 ≤ y → 0 ≤ z) ∧ (x < 0 → y ≤ 0 → z < 0) ∧ (x ≤ 0 → y < 0 → z < 0) ∧ (0 < x → 0 ≤ y → 0 < z) ∧ (0 ≤ x → 0 < y → 0 < z)

theorem Tr.zero {x y z : Int} (h : Tr x y z) (hx : x = 0) (hy : y = 0) : z = 0 := by unfold Tr at h; omega

theorem Tr.lex {x y z x' y' z' : Int} (h : Tr x y z) (h' : x = 0 → y = 0 → Tr x' y' z') : Tr (if x ≠ 0 then x else x') (if y ≠ 0 then y else y') (if z ≠ 0 then z else z') := by
  by_cases hx : x = 0
  · by_cases hy : y = 0
    · have hz := h.zero hx hy
      rw [if_neg (by omega), if_neg (by omega), if_neg (by omega)]
      exact h' hx hy
    · clear h'
      unfold Tr at *
      have hz : z ≠ 0 := by omega
      rw [if_neg (by omega), if_pos hy, if_pos hz]
      refine ⟨?_, ?_, ?_, ?_, ?_, ?_⟩ <;> intro a b <;> omega
  · clear h'
    by_cases hy : y = 0
    · unfold Tr at *
      have hz : z ≠ 0 := by omega
      rw [if_pos hx, if_neg (by omega), if_pos hz]
      refine ⟨?_, ?_, ?_, ?_, ?_, ?_⟩ <;> intro a b <;> omega
    · rw [if_pos hx, if_pos hy]
      by_cases hz : z = 0
      · unfold Tr at *
        rw [if_neg (by omega)]
        refine ⟨?_, ?_, ?_, ?_, ?_, ?_⟩ <;> intro a b <;> omega
      · rw [if_pos hz]
        exact h

theorem cmpI_neg (a b : Int) : cmpI a b = -cmpI b a := by
  unfold cmpI
  split <;> split <;> first | omega | (split <;> omega)

theorem cmpI_tr (a b c : Int) : Tr (cmpI a b) (cmpI b c) (cmpI a c) := by
  unfold Tr cmpI
  refine ⟨?_, ?_, ?_, ?_, ?_, ?_⟩ <;> (intro h1 h2; repeat' split at h1) <;> (repeat' split at h2) <;> (repeat' split) <;> omega

theorem blo_tr : ∀ (a b c : List UInt8), Op.bytesLess a b = true → Op.bytesLess b c = true → Op.bytesLess a c = true
  | [], b, [], _, h => by cases b <;> simp [Op.bytesLess] at h
  | [], _, c :: z, _, _ => by simp [Op.bytesLess]
  | a :: x, [], _, h, _ => by simp [Op.bytesLess] at h
  | a :: x, b :: y, [], _, h => by simp [Op.bytesLess] at h
  | a :: x, b :: y, c :: z, h1, h2 => by
    simp only [Op.bytesLess, Bool.or_eq_true, Bool.and_eq_true, decide_eq_true_eq, beq_iff_eq] at h1 h2 ⊢
    rcases h1 with h1 | ⟨rfl, h1⟩
    · rcases h2 with h2 | ⟨rfl, h2⟩
      · exact .inl (UInt8.lt_trans h1 h2)
      · exact .inl h1
    · rcases h2 with h2 | ⟨rfl, h2⟩
      · exact .inl h2
      · exact .inr ⟨rfl, blo_tr x y z h1 h2⟩

theorem blo_asym (a b : List UInt8) (h : Op.bytesLess a b = true) : Op.bytesLess b a = false := by
  cases h2 : Op.bytesLess b a with
  | false => rfl
  | true =>
    have := blo_tr a b a h h2
    rw [bl_irr] at this
    cases this

theorem cmpS_neg (a b : ByteArray) : cmpS a b = -cmpS b a := by
  unfold cmpS
  cases h1 : Op.bytesLess a.toList b.toList with
  | true => simp [blo_asym _ _ h1]
  | false => cases h2 : Op.bytesLess b.toList a.toList <;> simp

theorem cmpS_three (a b : ByteArray) : (cmpS a b = -1 ∧ Op.bytesLess a.toList b.toList = true) ∨ (cmpS a b = 0 ∧ a.toList = b.toList) ∨ (cmpS a b = 1 ∧ Op.bytesLess b.toList a.toList = true) := by
  cases h1 : Op.bytesLess a.toList b.toList with
  | true => exact .inl ⟨by simp [cmpS, h1], rfl⟩
  | false =>
    cases h2 : Op.bytesLess b.toList a.toList with
    | true => exact .inr (.inr ⟨by simp [cmpS, h1, h2], rfl⟩)
    | false =>
      have h : cmpS a b = 0 := by simp [cmpS, h1, h2]
      exact .inr (.inl ⟨h, (cmpS_zero a b).1 h⟩)

theorem cmpS_tr (a b c : ByteArray) : Tr (cmpS a b) (cmpS b c) (cmpS a c) := by
  unfold Tr
  rcases cmpS_three a b with ⟨e1, h1⟩ | ⟨e1, h1⟩ | ⟨e1, h1⟩
  · rcases cmpS_three b c with ⟨e2, h2⟩ | ⟨e2, h2⟩ | ⟨e2, h2⟩
    · have : cmpS a c = -1 := by simp [cmpS, blo_tr _ _ _ h1 h2]
      omega
    · have : cmpS a c = -1 := by simp [cmpS, ← h2, h1]
      omega
    · omega
  · rcases cmpS_three b c with ⟨e2, h2⟩ | ⟨e2, h2⟩ | ⟨e2, h2⟩
    · have : cmpS a c = -1 := by simp [cmpS, h1, h2]
      omega
    · have : cmpS a c = 0 := (cmpS_zero a c).2 (h1.trans h2)
      omega
    · have : cmpS a c = 1 := by rw [cmpS_neg]; simp [cmpS, h1, h2]
      omega
  · rcases cmpS_three b c with ⟨e2, h2⟩ | ⟨e2, h2⟩ | ⟨e2, h2⟩
    · omega
    · have : cmpS a c = 1 := by rw [cmpS_neg]; simp [cmpS, ← h2, h1]
      omega
    · have : cmpS a c = 1 := by rw [cmpS_neg]; simp [cmpS, blo_tr _ _ _ h2 h1]
      omega

theorem cmpI_eq {a b : Int} (h : cmpI a b = 0) : a = b := cmpI_zero h

theorem neg_lex {x y x' y' : Int} (h : x = -y) (h' : x = 0 → x' = -y') : (if x ≠ 0 then x else x') = -(if y ≠ 0 then y else y') := by
  by_cases hx : x = 0
  · rw [if_neg (by omega), if_neg (by omega)]; exact h' hx
  · rw [if_pos hx, if_pos (by omega)]; exact h

theorem ordL_neg : ∀ (r : Bool) (l : List Vl) (ks : List ByteArray) (l' : List Vl) (ks' : List ByteArray), ordL r l ks l' ks' = -ordL r l' ks' l ks
  | _, [], _, [], _ => by simp [ordL]
  | _, [], _, _ :: _, _ => by simp [ordL]
  | _, _ :: _, _, [], _ => by simp [ordL]
  | r, .mk k n s l q :: xs, ks, .mk k' n' s' l' q' :: ys, ks' => by
    have h1 := ordL_neg (decide (k = 5)) l q l' q'
    have h2 := ordL_neg r xs ks.tail ys ks'.tail
    have h0 : ord (.mk k n s l q) (.mk k' n' s' l' q') = -ord (.mk k' n' s' l' q') (.mk k n s l q) := by
      unfold ord
      refine neg_lex (cmpI_neg _ _) fun e => ?_
      obtain rfl := cmpI_eq e
      exact neg_lex (cmpI_neg _ _) fun _ => neg_lex (cmpS_neg _ _) fun _ => h1
    rw [ordL_cons, ordL_cons]
    cases r with
    | false =>
      simp only [Bool.false_eq_true, false_and, if_false]
      exact neg_lex h0 fun _ => h2
    | true =>
      simp only [true_and]
      exact neg_lex (cmpS_neg _ _) fun _ => neg_lex h0 fun _ => h2

theorem ord_neg (a b : Vl) : ord a b = -ord b a := by
  cases a with
  | mk k n s l ks =>
    cases b with
    | mk k' n' s' l' ks' =>
      unfold ord
      refine neg_lex (cmpI_neg _ _) fun e => ?_
      obtain rfl := cmpI_eq e
      exact neg_lex (cmpI_neg _ _) fun _ => neg_lex (cmpS_neg _ _) fun _ => ordL_neg _ _ _ _ _

theorem tr_const (x y z : Int) (h : (x = -1 ∧ z = -1) ∨ (y = 1 ∧ z = 1) ∨ (x = 1 ∧ y = -1) ∨ (x = 0 ∧ y = 0 ∧ z = 0) ∨ (x = 0 ∧ y = z) ∨ (y = 0 ∧ x = z) ∨ (x = 1 ∧ 0 < z) ∨ (y = -1 ∧ z < 0)) : Tr x y z := by
  unfold Tr
  omega

theorem ordL_tr : ∀ (r : Bool) (l : List Vl) (ks : List ByteArray) (l' : List Vl) (ks' : List ByteArray) (l'' : List Vl) (ks'' : List ByteArray), Tr (ordL r l ks l' ks') (ordL r l' ks' l'' ks'') (ordL r l ks l'' ks'')
  | r, [], _, [], _, [], _ => by simp [ordL, Tr]
  | r, [], _, [], _, _ :: _, _ => by simp [ordL, Tr]
  | r, [], _, _ :: _, _, [], _ => by simp [ordL, Tr]
  | r, [], _, _ :: _, _, _ :: _, _ => by simp only [ordL]; exact tr_const _ _ _ (.inl ⟨rfl, rfl⟩)
  | r, _ :: _, _, [], _, [], _ => by simp [ordL, Tr]
  | r, _ :: _, _, [], _, _ :: _, _ => by simp only [ordL]; exact tr_const _ _ _ (.inr (.inr (.inl ⟨rfl, rfl⟩)))
  | r, _ :: _, _, _ :: _, _, [], _ => by simp only [ordL]; exact tr_const _ _ _ (.inr (.inl ⟨rfl, rfl⟩))
  | r, .mk k n s l q :: xs, ks, .mk k' n' s' l' q' :: ys, ks', .mk k'' n'' s'' l'' q'' :: zs, ks'' => by
    have h1 := ordL_tr (decide (k = 5)) l q l' q' l'' q''
    have h2 := ordL_tr r xs ks.tail ys ks'.tail zs ks''.tail
    have h0 : Tr (ord (.mk k n s l q) (.mk k' n' s' l' q')) (ord (.mk k' n' s' l' q') (.mk k'' n'' s'' l'' q'')) (ord (.mk k n s l q) (.mk k'' n'' s'' l'' q'')) := by
      unfold ord
      refine (cmpI_tr _ _ _).lex fun e e' => ?_
      obtain rfl := cmpI_eq e
      obtain rfl := cmpI_eq e'
      exact (cmpI_tr _ _ _).lex fun _ _ => (cmpS_tr _ _ _).lex fun _ _ => h1
    rw [ordL_cons, ordL_cons, ordL_cons]
    cases r with
    | false =>
      simp only [Bool.false_eq_true, false_and, if_false]
      exact h0.lex fun _ _ => h2
    | true =>
      simp only [true_and]
      exact (cmpS_tr _ _ _).lex fun _ _ => h0.lex fun _ _ => h2

theorem ord_tr (a b c : Vl) : Tr (ord a b) (ord b c) (ord a c) := by
  cases a with
  | mk k n s l ks =>
    cases b with
    | mk k' n' s' l' ks' =>
      cases c with
      | mk k'' n'' s'' l'' ks'' =>
        unfold ord
        refine (cmpI_tr _ _ _).lex fun e e' => ?_
        obtain rfl := cmpI_eq e
        obtain rfl := cmpI_eq e'
        exact (cmpI_tr _ _ _).lex fun _ _ => (cmpS_tr _ _ _).lex fun _ _ => ordL_tr _ _ _ _ _ _ _

theorem toList_inj {a b : ByteArray} (h : a.toList = b.toList) : a = b := by
  rw [ByteArray.toList_eq, ByteArray.toList_eq] at h
  exact Go.WideShapes.bytes_inj h

theorem form_ks {k n : Int} {s : ByteArray} {ll : Nat} {ks : List ByteArray} (h : formB k n s ll ks = true) : (k = 5 ∧ ks.length = ll) ∨ (k ≠ 5 ∧ ks = []) := by
  unfold formB formM at h
  by_cases k5 : k = 5
  · subst k5
    simp at h
    exact .inl ⟨rfl, by omega⟩
  · refine .inr ⟨k5, ?_⟩
    repeat' split at h
    all_goals simp_all

def ZeroAt (d : Nat) : Prop := ∀ v v', okB d v = true → okB d v' = true → ord v v' = 0 → v = v'

theorem lex_zero {x y : Int} (h : (if x ≠ 0 then x else y) = 0) : x = 0 ∧ y = 0 := by
  by_cases hx : x = 0
  · rw [if_neg (by omega)] at h; exact ⟨hx, h⟩
  · rw [if_pos hx] at h; exact absurd h hx

theorem ordL_zero {d : Nat} (ih : ZeroAt d) (r : Bool) : ∀ (l : List Vl) (ks : List ByteArray) (l' : List Vl) (ks' : List ByteArray), okL d l = true → okL d l' = true → (r = true → ks.length = l.length ∧ ks'.length = l'.length) → ordL r l ks l' ks' = 0 → l = l' ∧ (r = true → ks = ks')
  | [], ks, [], ks', _, _, hk, _ => ⟨rfl, fun hr => by
      obtain ⟨h1, h2⟩ := hk hr
      rw [List.eq_nil_of_length_eq_zero h1, List.eq_nil_of_length_eq_zero h2]⟩
  | [], _, _ :: _, _, _, _, _, h => by simp [ordL] at h
  | _ :: _, _, [], _, _, _, _, h => by simp [ordL] at h
  | x :: xs, ks, y :: ys, ks', h1, h2, hk, h => by
    rw [okL_cons, Bool.and_eq_true] at h1 h2
    rw [ordL_cons] at h
    cases r with
    | false =>
      simp only [Bool.false_eq_true, false_and, if_false] at h
      obtain ⟨e1, e2⟩ := lex_zero h
      have e3 := ih x y h1.1 h2.1 e1
      have e4 := ordL_zero ih false xs ks.tail ys ks'.tail h1.2 h2.2 (fun hr => by cases hr) e2
      exact ⟨by rw [e3, e4.1], fun hr => by cases hr⟩
    | true =>
      simp only [true_and] at h
      obtain ⟨e0, h⟩ := lex_zero h
      obtain ⟨e1, e2⟩ := lex_zero h
      obtain ⟨k1, k2⟩ := hk rfl
      have e3 := ih x y h1.1 h2.1 e1
      have e4 := ordL_zero ih true xs ks.tail ys ks'.tail h1.2 h2.2 (fun _ => by rw [List.length_tail, List.length_tail, k1, k2]; exact ⟨rfl, rfl⟩) e2
      refine ⟨by rw [e3, e4.1], fun _ => ?_⟩
      cases ks with
      | nil => simp at k1
      | cons t tr =>
        cases ks' with
        | nil => simp at k2
        | cons t' tr' =>
          have e5 := toList_inj ((cmpS_zero _ _).1 e0)
          have e6 := e4.2 rfl
          simp only [List.headD_cons] at e5
          simp only [List.tail_cons] at e6
          rw [e5, e6]

theorem ord_zero : ∀ d, ZeroAt d
  | 0 => fun v v' h => by cases v; simp [okB] at h
  | d + 1 => fun v v' h h' e => by
    cases v with
    | mk k n s l ks =>
      cases v' with
      | mk k' n' s' l' ks' =>
        rw [okB, Bool.and_eq_true] at h h'
        unfold ord at e
        obtain ⟨e1, x1⟩ := lex_zero e
        obtain ⟨e2, x2⟩ := lex_zero x1
        obtain ⟨e3, x3⟩ := lex_zero x2
        clear e x1 x2
        have g1 := cmpI_eq e1
        have g2 := cmpI_eq e2
        have g3 := toList_inj ((cmpS_zero _ _).1 e3)
        clear e1 e2 e3
        subst g1 g2 g3
        have f1 := form_ks h.1
        have f2 := form_ks h'.1
        obtain ⟨e4, e5⟩ := ordL_zero (ord_zero d) (decide (k = 5)) l ks l' ks' h.2 h'.2 (fun hr => by
          have hr := of_decide_eq_true hr
          rcases f1 with f1 | f1
          · rcases f2 with f2 | f2
            · exact ⟨f1.2, f2.2⟩
            · exact absurd hr f2.1
          · exact absurd hr f1.1) x3
        subst e4
        rcases f1 with f1 | f1
        · rw [e5 (decide_eq_true f1.1)]
        · rcases f2 with f2 | f2
          · exact absurd f2.1 f1.1
          · rw [f1.2, f2.2]
end Go.Proofs.YtfbpaeddfonfbaaDoor

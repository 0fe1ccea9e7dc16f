/-
  Rows of k cells in one block: read, written over one by one, made, copied; no conditions.
-/
import Derived.Test.YtjgjebohbgbimaaDoorA00
import Derived.Test.YtjgjebohbgbimaaDoorA03
import Derived.Laws.CopyRow
import Derived.Laws.CopyOwn
import Derived.Laws.MakeOwn
set_option linter.unusedVariables false
set_option linter.unusedSimpArgs false
namespace Go.Proofs.YtjgjebohbgbimaaDoor
open Go.RowKit
set_option linter.unusedVariables false
set_option linter.unusedSimpArgs false

theorem addK (a : Addr) (x y : Nat) : (a.add x).add y = a.add (x + y) := by
  unfold Addr.add
  by_cases hx : x = 0
  · subst hx; simp
  · by_cases hy : y = 0
    · subst hy; simp
    · have h : x + y ≠ 0 := by omega
      simp [hx, hy, h, Nat.add_assoc]

theorem addK0 (g x : Nat) : (⟨g, 0, none⟩ : Addr).add x = ⟨g, x, none⟩ := by
  unfold Addr.add
  by_cases hx : x = 0
  · subst hx; simp
  · simp [hx]

theorem flatkR_len (k : Nat) : ∀ (R : List (List Value)), (∀ r ∈ R, r.length = k) → R.flatten.length = R.length * k
  | [], _ => by simp
  | r :: R, h => by
    rw [List.flatten_cons, List.length_append, h r List.mem_cons_self, flatkR_len k R (fun x hx => h x (List.mem_cons_of_mem _ hx)), List.length_cons, Nat.succ_mul, Nat.add_comm]

theorem flatkR_at (k : Nat) : ∀ (R : List (List Value)), (∀ r ∈ R, r.length = k) → ∀ (i : Nat) (r : List Value), R[i]? = some r → ∀ (j : Nat) (v : Value), r[j]? = some v → R.flatten[i * k + j]? = some v
  | [], _, i, r, h, _, _, _ => by simp at h
  | x :: R, hR, 0, r, h, j, v, hv => by
    simp at h
    subst h
    rw [Nat.zero_mul, Nat.zero_add, List.flatten_cons, List.getElem?_append_left (List.getElem?_eq_some_iff.1 hv).1]
    exact hv
  | x :: R, hR, i + 1, r, h, j, v, hv => by
    have hx := hR x List.mem_cons_self
    rw [List.flatten_cons, List.getElem?_append_right (by rw [hx, Nat.succ_mul]; omega), hx, show (i + 1) * k + j - k = i * k + j by rw [Nat.succ_mul]; omega]
    exact flatkR_at k R (fun y hy => hR y (List.mem_cons_of_mem _ hy)) i r (by simpa using h) j v hv

theorem flatkR_set (k : Nat) : ∀ (R : List (List Value)), (∀ r ∈ R, r.length = k) → ∀ (i : Nat) (r : List Value), R[i]? = some r → ∀ (j : Nat) (y : Value), j < k → R.flatten.set (i * k + j) y = (R.set i (r.set j y)).flatten
  | [], _, i, r, h, _, _, _ => by simp at h
  | x :: R, hR, 0, r, h, j, y, hj => by
    simp at h
    subst h
    have hx := hR x List.mem_cons_self
    rw [Nat.zero_mul, Nat.zero_add, List.flatten_cons, List.set_cons_zero, List.flatten_cons, List.set_append_left _ _ (by omega)]
  | x :: R, hR, i + 1, r, h, j, y, hj => by
    have hx := hR x List.mem_cons_self
    rw [List.flatten_cons, List.set_cons_succ, List.flatten_cons, List.set_append_right _ _ (by rw [hx, Nat.succ_mul]; omega), hx, show (i + 1) * k + j - k = i * k + j by rw [Nat.succ_mul]; omega]
    rw [flatkR_set k R (fun y hy => hR y (List.mem_cons_of_mem _ hy)) i r (by simpa using h) j y hj]

theorem chunk (k : Nat) : ∀ (n : Nat) (L : List Value), L.length = n * k → ∃ R : List (List Value), R.length = n ∧ (∀ r ∈ R, r.length = k) ∧ R.flatten = L
  | 0, L, h => ⟨[], rfl, (fun r hr => by cases hr), by
    have : L = [] := List.eq_nil_of_length_eq_zero (by omega)
    rw [this]; rfl⟩
  | n + 1, L, h => by
    obtain ⟨R, h1, h2, h3⟩ := chunk k n (L.drop k) (by rw [List.length_drop, h, Nat.succ_mul]; omega)
    refine ⟨L.take k :: R, by simp [h1], ?_, by rw [List.flatten_cons, h3, List.take_append_drop]⟩
    intro r hr
    rcases List.mem_cons.1 hr with rfl | hr
    · rw [List.length_take, h, Nat.succ_mul]; omega
    · exact h2 r hr

/-- rows of k cells, one behind the other, all of a block -/
structure RowK (u : World) (g : Nat) (E : TypeId) (k : Nat) (R : List (List Value)) : Prop where
  row : u.heap[g]? = some (.cells R.flatten.toArray E (0, 0))
  len : ∀ r ∈ R, r.length = k

theorem RowK.to {u u' : World} {g : Nat} {E : TypeId} {k : Nat} {R : List (List Value)} (h : RowK u g E k R) (hb : u'.heap[g]? = u.heap[g]?) : RowK u' g E k R := ⟨hb.trans h.row, h.len⟩

theorem RowK.lt {u : World} {g : Nat} {E : TypeId} {k : Nat} {R : List (List Value)} (h : RowK u g E k R) : g < u.heap.size := lt_of_row h.row

theorem RowK.later {u u' : World} {g : Nat} {E : TypeId} {k : Nat} {R : List (List Value)} (h : RowK u g E k R) (hb : Below u.heap.size u u') : RowK u' g E k R := h.to (hb.block g h.lt)

theorem RowK.cell {u : World} {g : Nat} {E : TypeId} {k : Nat} {R : List (List Value)} (h : RowK u g E k R) (i : Nat) (r : List Value) (hr : R[i]? = some r) (j : Nat) (v : Value) (hv : r[j]? = some v) : u.cell? ⟨g, i * k + j, none⟩ = some v := by
  rw [cell_of_row u g (i * k + j) _ _ (0, 0) h.row, List.getElem?_toArray]
  exact flatkR_at k R h.len i r hr j v hv

theorem RowK.fro {u : World} {g : Nat} {E : TypeId} {k : Nat} {R : List (List Value)} (h : RowK u g E k R) (i : Nat) : u.frozen? ⟨g, i, none⟩ = false := frozen_of_row u g i _ _ h.row

theorem RowK.set1 {u : World} {g : Nat} {E : TypeId} {k : Nat} {R : List (List Value)} (h : RowK u g E k R) (i : Nat) (r : List Value) (hr : R[i]? = some r) (j : Nat) (y : Value) (hj : j < k) : RowK (u.setCell ⟨g, i * k + j, none⟩ y) g E k (R.set i (r.set j y)) := by
  refine ⟨?_, fun x hx => ?_⟩
  · rw [heap_setCell_same u g (i * k + j) _ _ _ h.row, ← flatkR_set k R h.len i r hr j y hj]
    simp
  · rcases List.mem_or_eq_of_mem_set hx with hx | hx
    · exact h.len x hx
    · rw [hx, List.length_set]; exact h.len r (List.mem_of_getElem? hr)

theorem set_set_same {α : Type} : ∀ (R : List α) (i : Nat) (a b : α), (R.set i a).set i b = R.set i b
  | [], i, a, b => by simp
  | x :: R, 0, a, b => by simp
  | x :: R, i + 1, a, b => by simp

theorem RowK.set5 {u : World} {g : Nat} {E : TypeId} {R : List (List Value)} (h : RowK u g E 5 R) (i : Nat) (hi : i < R.length) (y0 y1 y2 y3 y4 : Value) : RowK (((((u.setCell ⟨g, i * 5, none⟩ y0).setCell ⟨g, i * 5 + 1, none⟩ y1).setCell ⟨g, i * 5 + 2, none⟩ y2).setCell ⟨g, i * 5 + 3, none⟩ y3).setCell ⟨g, i * 5 + 4, none⟩ y4) g E 5 (R.set i [y0, y1, y2, y3, y4]) := by
  obtain ⟨r, hr⟩ : ∃ r, R[i]? = some r := ⟨_, List.getElem?_eq_getElem hi⟩
  match r, h.len r (List.mem_of_getElem? hr), hr with
  | [z0, z1, z2, z3, z4], _, hr =>
    have h0 := h.set1 i _ hr 0 y0 (by omega)
    have h1 := h0.set1 i _ (by rw [List.getElem?_set_self hi]) 1 y1 (by omega)
    have h2 := h1.set1 i _ (by rw [List.getElem?_set_self (by simpa using hi)]) 2 y2 (by omega)
    have h3 := h2.set1 i _ (by rw [List.getElem?_set_self (by simpa using hi)]) 3 y3 (by omega)
    have h4 := h3.set1 i _ (by rw [List.getElem?_set_self (by simpa using hi)]) 4 y4 (by omega)
    simp only [set_set_same, List.set_cons_zero, List.set_cons_succ] at h4
    exact h4

theorem RowK.set4 {u : World} {g : Nat} {E : TypeId} {R : List (List Value)} (h : RowK u g E 4 R) (i : Nat) (hi : i < R.length) (y0 y1 y2 y3 : Value) : RowK ((((u.setCell ⟨g, i * 4, none⟩ y0).setCell ⟨g, i * 4 + 1, none⟩ y1).setCell ⟨g, i * 4 + 2, none⟩ y2).setCell ⟨g, i * 4 + 3, none⟩ y3) g E 4 (R.set i [y0, y1, y2, y3]) := by
  obtain ⟨r, hr⟩ : ∃ r, R[i]? = some r := ⟨_, List.getElem?_eq_getElem hi⟩
  match r, h.len r (List.mem_of_getElem? hr), hr with
  | [z0, z1, z2, z3], _, hr =>
    have h0 := h.set1 i _ hr 0 y0 (by omega)
    have h1 := h0.set1 i _ (by rw [List.getElem?_set_self hi]) 1 y1 (by omega)
    have h2 := h1.set1 i _ (by rw [List.getElem?_set_self (by simpa using hi)]) 2 y2 (by omega)
    have h3 := h2.set1 i _ (by rw [List.getElem?_set_self (by simpa using hi)]) 3 y3 (by omega)
    simp only [set_set_same, List.set_cons_zero, List.set_cons_succ] at h3
    exact h3

theorem RowK.set2 {u : World} {g : Nat} {E : TypeId} {R : List (List Value)} (h : RowK u g E 2 R) (i : Nat) (hi : i < R.length) (y0 y1 : Value) : RowK ((u.setCell ⟨g, i * 2, none⟩ y0).setCell ⟨g, i * 2 + 1, none⟩ y1) g E 2 (R.set i [y0, y1]) := by
  obtain ⟨r, hr⟩ : ∃ r, R[i]? = some r := ⟨_, List.getElem?_eq_getElem hi⟩
  match r, h.len r (List.mem_of_getElem? hr), hr with
  | [z0, z1], _, hr =>
    have h0 := h.set1 i _ hr 0 y0 (by omega)
    have h1 := h0.set1 i _ (by rw [List.getElem?_set_self hi]) 1 y1 (by omega)
    simp only [set_set_same, List.set_cons_zero, List.set_cons_succ] at h1
    exact h1

theorem RowK.set6 {u : World} {g : Nat} {E : TypeId} {R : List (List Value)} (h : RowK u g E 6 R) (i : Nat) (hi : i < R.length) (y0 y1 y2 y3 y4 y5 : Value) : RowK ((((((u.setCell ⟨g, i * 6, none⟩ y0).setCell ⟨g, i * 6 + 1, none⟩ y1).setCell ⟨g, i * 6 + 2, none⟩ y2).setCell ⟨g, i * 6 + 3, none⟩ y3).setCell ⟨g, i * 6 + 4, none⟩ y4).setCell ⟨g, i * 6 + 5, none⟩ y5) g E 6 (R.set i [y0, y1, y2, y3, y4, y5]) := by
  obtain ⟨r, hr⟩ : ∃ r, R[i]? = some r := ⟨_, List.getElem?_eq_getElem hi⟩
  match r, h.len r (List.mem_of_getElem? hr), hr with
  | [z0, z1, z2, z3, z4, z5], _, hr =>
    have h0 := h.set1 i _ hr 0 y0 (by omega)
    have h1 := h0.set1 i _ (by rw [List.getElem?_set_self hi]) 1 y1 (by omega)
    have h2 := h1.set1 i _ (by rw [List.getElem?_set_self (by simpa using hi)]) 2 y2 (by omega)
    have h3 := h2.set1 i _ (by rw [List.getElem?_set_self (by simpa using hi)]) 3 y3 (by omega)
    have h4 := h3.set1 i _ (by rw [List.getElem?_set_self (by simpa using hi)]) 4 y4 (by omega)
    have h5 := h4.set1 i _ (by rw [List.getElem?_set_self (by simpa using hi)]) 5 y5 (by omega)
    simp only [set_set_same, List.set_cons_zero, List.set_cons_succ] at h5
    exact h5
end Go.Proofs.YtjgjebohbgbimaaDoor

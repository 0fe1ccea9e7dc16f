/-
  A record with something under a key, as a tree; how a value lies whose two rows are the call's own; no conditions.
-/
import Derived.Test.YtcopkhmmpamboaaL12
import Derived.Test.YtcopkhmmpamboaaL22
import Derived.Laws.OwnMore
namespace Go.Proofs.Ytcopkhmmpamboaa
open Go.RowKit
set_option linter.unusedVariables false
set_option linter.unusedSimpArgs false

/-- how many keys stand ahead of a key -/
def tw (ks : List ByteArray) (k : ByteArray) : Nat := (ks.takeWhile fun p => bl p k).length

theorem tw_of : ∀ (ks : List ByteArray) (k : ByteArray) (L : Nat), L ≤ ks.length → (∀ i p, ks[i]? = some p → (i < L ↔ bl p k = true)) → L = tw ks k
  | [], k, L, h, _ => by simp at h; subst h; rfl
  | p :: r, k, 0, _, h => by
    have h0 := h 0 p rfl
    have hb : bl p k = false := by
      cases hb : bl p k with
      | false => rfl
      | true => exact absurd (h0.2 hb) (by omega)
    simp [tw, hb]
  | p :: r, k, L + 1, hl, h => by
    have h0 := (h 0 p rfl).1 (by omega)
    have ih := tw_of r k L (by simpa using hl) (fun i q hq => by
      have := h (i + 1) q (by simpa using hq)
      rw [← this]
      omega)
    unfold tw at ih ⊢
    simp [List.takeWhile_cons, h0, ← ih]

theorem tw_le (ks : List ByteArray) (k : ByteArray) : tw ks k ≤ ks.length := by
  unfold tw
  exact (List.takeWhile_prefix _).length_le

/-- the record with x under the key -/
def withV (l : List Vl) (ks : List ByteArray) (k : ByteArray) (x : Vl) : Vl :=
  if ks[tw ks k]? = some k then .mk 5 0 ⟨#[]⟩ (l.set (tw ks k) x) ks
  else .mk 5 0 ⟨#[]⟩ (l.take (tw ks k) ++ x :: l.drop (tw ks k)) (ks.take (tw ks k) ++ k :: ks.drop (tw ks k))

/-- rows of the call's own, as a record -/
theorem isP_rows {w : World} {base : Nat} {P : Nat → Prop} {kv lv : Value} {n m : Nat} {ks : List ByteArray} {l : List Vl} {V : Nat → List Value} (hk : w.ownsRow base 9 1 kv m (ks.map Value.string)) (hl : w.ownsRow base 27 5 lv n (flat V n)) (hn : l.length = n)
    (hV : ∀ i, i < n → (V i).length = 5) (el : ∀ i y, l[i]? = some y → IsP w P y (.agg (V i).toArray)) (hP : ∀ b, base ≤ b → b < w.heap.size → P b) (b1 : n ≤ 140737488351232) (b2 : 16 * m ≤ 140737488351232) (b3 : ∀ t ∈ ks, t.size ≤ 140737488351232) :
    IsP w P (.mk 5 0 ⟨#[]⟩ l ks) (.agg #[.int .i64 5, .int .i64 0, .string ⟨#[]⟩, lv, kv]) := by
  have hkl : ks.length = m := by have := hk.1; simpa using this
  have hk2 := hk.2
  have hl2 := hl.2
  obtain ⟨ak, ck, rfl, k1, k2, k3⟩ : ∃ ak ck, kv = .slice ak m ck ∧ (ak = none → m = 0 ∧ ck = 0) ∧ m ≤ ck ∧ (∀ a, ak = some a → P a.block ∧ ∀ i t, ks[i]? = some t → w.cell? (a.add i) = some (.string t)) := by
    rcases hk2 with ⟨rfl, rfl⟩ | ⟨g, c, cur, rfl, hb, hg, hc, _⟩
    · exact ⟨none, 0, rfl, fun _ => ⟨rfl, rfl⟩, Nat.le_refl _, fun a h => by cases h⟩
    · refine ⟨some ⟨g, 0, none⟩, c, rfl, (fun e => by cases e), hc, fun a h => ?_⟩
      cases h
      exact ⟨hP g hb (hk.lt g rfl).2, fun i t ht => hk.cells (g := g) rfl i _ (by rw [List.getElem?_map, ht]; rfl)⟩
  obtain ⟨al, cl, rfl, l1, l2, l3⟩ : ∃ al cl, lv = .slice al n cl ∧ (al = none → n = 0 ∧ cl = 0) ∧ n ≤ cl ∧ (∀ a, al = some a → P a.block ∧ ∃ g, a = ⟨g, 0, none⟩ ∧ ∀ j u, (flat V n)[j]? = some u → w.cell? (a.add j) = some u) := by
    rcases hl2 with ⟨rfl, rfl⟩ | ⟨g, c, cur, rfl, hb, hg, hc, _⟩
    · exact ⟨none, 0, rfl, fun _ => ⟨rfl, rfl⟩, Nat.le_refl _, fun a h => by cases h⟩
    · refine ⟨some ⟨g, 0, none⟩, c, rfl, (fun e => by cases e), hc, fun a h => ?_⟩
      cases h
      exact ⟨hP g hb (hl.lt g rfl).2, g, rfl, hl.cells (g := g) rfl⟩
  subst hn
  subst hkl
  refine IsP.of (V := V) ⟨by omega, by omega, by decide, l1, k1, l2, k2, b1, by omega, b2, fun a ha i hi => ⟨(l3 a ha).1, fun j v hv => ?_⟩, hV, fun a ha i t ht => ⟨(k3 a ha).1, (k3 a ha).2 i t ht⟩, b3⟩ el
  obtain ⟨_, g, rfl, hc⟩ := l3 a ha
  have h1 := hc _ _ (flat_at V l.length hV i hi j v hv)
  rw [add_at0] at h1
  rw [add_at0]
  have e : (⟨g, i * 5, none⟩ : Addr).add j = ⟨g, i * 5 + j, none⟩ := by unfold Addr.add; split <;> simp_all
  rw [e]
  exact h1

/-- the elements with one more -/
def insF (V : Nat → List Value) (L : Nat) (X : List Value) : Nat → List Value := fun i => if i < L then V i else if i = L then X else V (i - 1)
def setF (V : Nat → List Value) (L : Nat) (X : List Value) : Nat → List Value := fun i => if i = L then X else V i

theorem flat_ext {V : Nat → List Value} {n : Nat} {xs : List Value} (hV : ∀ i, i < n → (V i).length = 5) (hx : xs.length = n * 5) (h : ∀ i, i < n → ∀ j, j < 5 → xs[i * 5 + j]? = (V i)[j]?) : flat V n = xs := by
  have hf := flat_len V n hV
  apply List.ext_getElem?
  intro q
  by_cases hq : q < n * 5
  · have h5 := hV (q / 5) (by omega)
    have h1 := flat_at V n hV (q / 5) (by omega) (q % 5) ((V (q / 5))[q % 5]'(by omega)) (List.getElem?_eq_getElem (by omega))
    have h2 := h (q / 5) (by omega) (q % 5) (by omega)
    rw [show q / 5 * 5 + q % 5 = q by omega] at h1 h2
    rw [h1, h2, List.getElem?_eq_getElem (by omega)]
  · rw [List.getElem?_eq_none (by omega), List.getElem?_eq_none (by omega)]

theorem flat_get {V : Nat → List Value} {n : Nat} (hV : ∀ i, i < n → (V i).length = 5) (i j : Nat) (hi : i < n) (hj : j < 5) : (flat V n)[i * 5 + j]? = (V i)[j]? := by
  have h5 := hV i hi
  rw [flat_at V n hV i hi j ((V i)[j]'(by omega)) (List.getElem?_eq_getElem (by omega)), List.getElem?_eq_getElem (by omega)]

theorem flat_ins {V : Nat → List Value} {n L : Nat} {X : List Value} (hV : ∀ i, i < n → (V i).length = 5) (hX : X.length = 5) (hL : L ≤ n) : flat (insF V L X) (n + 1) = (flat V n).take (L * 5) ++ X ++ (flat V n).drop (L * 5) := by
  have hf := flat_len V n hV
  refine flat_ext (fun i hi => ?_) (by simp only [List.length_append, List.length_take, List.length_drop]; omega) (fun i hi j hj => ?_)
  · unfold insF
    split
    · exact hV i (by omega)
    · split
      · exact hX
      · exact hV (i - 1) (by omega)
  · unfold insF
    by_cases h1 : i < L
    · rw [if_pos h1, List.append_assoc, List.getElem?_append_left (by simp only [List.length_take]; omega), List.getElem?_take_of_lt (by omega)]
      exact flat_get hV i j (by omega) hj
    · rw [if_neg h1, List.append_assoc, List.getElem?_append_right (by simp only [List.length_take]; omega)]
      have e : (List.take (L * 5) (flat V n)).length = L * 5 := by simp only [List.length_take]; omega
      rw [e]
      by_cases h2 : i = L
      · subst h2
        rw [if_pos rfl, show i * 5 + j - i * 5 = j by omega, List.getElem?_append_left (by omega)]
      · rw [if_neg h2, List.getElem?_append_right (by omega), List.getElem?_drop, show L * 5 + (i * 5 + j - L * 5 - X.length) = (i - 1) * 5 + j by omega]
        exact flat_get hV (i - 1) j (by omega) hj

theorem flat_set5 {V : Nat → List Value} {n L : Nat} {x0 x1 x2 x3 x4 : Value} (hV : ∀ i, i < n → (V i).length = 5) (hL : L < n) : flat (setF V L [x0, x1, x2, x3, x4]) n = (((((flat V n).set (L * 5) x0).set (L * 5 + 1) x1).set (L * 5 + 2) x2).set (L * 5 + 3) x3).set (L * 5 + 4) x4 := by
  have hf := flat_len V n hV
  refine flat_ext (fun i hi => ?_) (by simpa using hf) (fun i hi j hj => ?_)
  · unfold setF
    split
    · rfl
    · exact hV i hi
  · unfold setF
    simp only [List.getElem?_set, List.length_set]
    by_cases h : i = L
    · subst h
      rw [if_pos rfl]
      match j, hj with
      | 0, _ => simp; omega
      | 1, _ => simp; omega
      | 2, _ => simp; omega
      | 3, _ => simp; omega
      | 4, _ => simp; omega
    · rw [if_neg h, if_neg (by omega), if_neg (by omega), if_neg (by omega), if_neg (by omega), if_neg (by omega)]
      exact flat_get hV i j hi hj

theorem own_to5 {w w' : World} {base : Nat} {e : TypeId} {size : Nat} {v : Value} {n : Nat} {xs : List Value} (h : w.ownsRow base e size v n xs) (hk : ∀ g, v.ownBlock = some g → w'.heap[g]? = w.heap[g]?) : w'.ownsRow base e size v n xs := by
  refine ⟨h.1, ?_⟩
  rcases h.2 with hn | ⟨g, cap, cur, rfl, hbs, hg, rest⟩
  · exact .inl hn
  · exact .inr ⟨g, cap, cur, rfl, hbs, (hk g rfl).trans hg, rest⟩
end Go.Proofs.Ytcopkhmmpamboaa

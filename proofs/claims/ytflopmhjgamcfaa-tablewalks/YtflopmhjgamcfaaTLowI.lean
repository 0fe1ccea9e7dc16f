/-
  What Find, Put and Delete do to a list of pairs of whole numbers whose keys rise; no conditions.
-/
import Derived.Test.YtflopmhjgamcfaaTFindI
namespace Go.Proofs.Ytflopmhjgamcfaa
open Go.RowKit
set_option linter.unusedVariables false

abbrev Prs : Type := List (Int × Int)

/-- how many keys are less -/
def low (l : Prs) (k : Int) : Nat := (l.takeWhile fun p => decide (p.1 < k)).length
def has (l : Prs) (k : Int) : Bool := decide ((l.map Prod.fst)[low l k]? = some k)
def putL (l : Prs) (k v : Int) : Prs := if has l k then l.set (low l k) (k, v) else l.take (low l k) ++ (k, v) :: l.drop (low l k)
def delL (l : Prs) (k : Int) : Prs := if has l k then l.take (low l k) ++ l.drop (low l k + 1) else l

theorem low_le (l : Prs) (k : Int) : low l k ≤ l.length := by
  unfold low
  induction l with
  | nil => simp
  | cons p r ih =>
    rw [List.takeWhile_cons]
    split
    · simp; exact ih
    · simp

theorem low_cons_lt {p : Int × Int} {r : Prs} {k : Int} (h : p.1 < k) : low (p :: r) k = low r k + 1 := by
  unfold low
  rw [List.takeWhile_cons, if_pos (by simpa using h), List.length_cons]

theorem low_cons_ge {p : Int × Int} {r : Prs} {k : Int} (h : ¬ p.1 < k) : low (p :: r) k = 0 := by
  unfold low
  rw [List.takeWhile_cons, if_neg (by simpa using h), List.length_nil]

theorem rises_tail {p : Int × Int} {r : Prs} (h : RisesI (p :: r)) : RisesI r := fun i j a b hij ha hb => h (i + 1) (j + 1) a b (by omega) (by simpa using ha) (by simpa using hb)

theorem low_spec : ∀ {l : Prs} (hr : RisesI l) (k : Int) (i : Nat) (p : Int × Int), l[i]? = some p → (i < low l k ↔ p.1 < k)
  | [], _, k, i, p, h => by simp at h
  | q :: r, hr, k, 0, p, h => by
    simp only [List.getElem?_cons_zero, Option.some.injEq] at h
    subst h
    by_cases hq : q.1 < k
    · rw [low_cons_lt hq]; simp [hq]
    · rw [low_cons_ge hq]; simp [hq]
  | q :: r, hr, k, i + 1, p, h => by
    rw [List.getElem?_cons_succ] at h
    have ih := low_spec (rises_tail hr) k i p h
    by_cases hq : q.1 < k
    · rw [low_cons_lt hq]; rw [← ih]; omega
    · rw [low_cons_ge hq]
      have := hr 0 (i + 1) q p (by omega) (by simp) (by simpa using h)
      constructor
      · intro h'; omega
      · intro h'; omega

/-- the place that Find tells is that -/
theorem low_eq {l : Prs} (hr : RisesI l) {k : Int} {L : Nat} (hL : L ≤ l.length) (h : ∀ (i : Nat) (p : Int × Int), l[i]? = some p → (i < L ↔ p.1 < k)) : L = low l k := by
  have h2 := low_le l k
  rcases Nat.lt_trichotomy L (low l k) with hlt | heq | hgt
  · have hp := List.getElem?_eq_getElem (show L < l.length by omega)
    have a := (h L _ hp).2 ((low_spec hr k L _ hp).1 hlt)
    omega
  · exact heq
  · have hp := List.getElem?_eq_getElem (show low l k < l.length by omega)
    have a := (low_spec hr k _ _ hp).2 ((h _ _ hp).1 hgt)
    omega

theorem has_at {l : Prs} {k : Int} (h : has l k = true) : ∃ v, l[low l k]? = some (k, v) := by
  have h := of_decide_eq_true h
  rw [List.getElem?_map] at h
  obtain ⟨p, hp, he⟩ := Option.map_eq_some_iff.1 h
  exact ⟨p.2, by rw [hp, ← he]⟩

theorem pair_I {l : Prs} : RisesI l ↔ l.Pairwise (fun p q => p.1 < q.1) := by
  rw [List.pairwise_iff_getElem]
  constructor
  · intro h i j hi hj hij
    exact h i j _ _ hij (List.getElem?_eq_getElem hi) (List.getElem?_eq_getElem hj)
  · intro h i j p q hij hp hq
    obtain ⟨hi, rfl⟩ := List.getElem?_eq_some_iff.1 hp
    obtain ⟨hj, rfl⟩ := List.getElem?_eq_some_iff.1 hq
    exact h i j hi hj hij

theorem put_rises {l : Prs} (hr : RisesI l) (k v : Int) : RisesI (putL l k v) := by
  unfold putL
  split
  · rename_i hh
    obtain ⟨v0, h0⟩ := has_at hh
    intro i j p q hij hp hq
    have key : ∀ (i : Nat) (p : Int × Int), (l.set (low l k) (k, v))[i]? = some p → ∃ q, l[i]? = some q ∧ q.1 = p.1 := by
      intro i p hp
      rw [List.getElem?_set] at hp
      split at hp
      · rename_i h
        subst h
        split at hp
        · cases hp
          exact ⟨_, h0, rfl⟩
        · cases hp
      · exact ⟨p, hp, rfl⟩
    obtain ⟨p', hp', e1⟩ := key i p hp
    obtain ⟨q', hq', e2⟩ := key j q hq
    rw [← e1, ← e2]
    exact hr i j p' q' hij hp' hq'
  · rename_i hn
    have h0 := pair_I.1 hr
    rw [← List.take_append_drop (low l k) l, List.pairwise_append] at h0
    obtain ⟨a1, a2, a3⟩ := h0
    have b1 : ∀ p ∈ l.take (low l k), p.1 < k := fun p hp => by
      obtain ⟨i, hi⟩ := List.mem_iff_getElem?.1 hp
      rw [List.getElem?_take] at hi
      split at hi
      · rename_i hlt
        exact (low_spec hr k i p hi).1 hlt
      · cases hi
    have b2 : ∀ p ∈ l.drop (low l k), k < p.1 := fun p hp => by
      obtain ⟨i, hi⟩ := List.mem_iff_getElem?.1 hp
      rw [List.getElem?_drop] at hi
      have h1 := low_spec hr k _ p hi
      have h2 : ¬ p.1 < k := fun h => by have := h1.2 h; omega
      have h3 : p.1 ≠ k := fun e => by
        by_cases hi0 : i = 0
        · subst hi0
          apply hn
          unfold has
          rw [List.getElem?_map, show low l k + 0 = low l k from rfl] at *
          rw [hi]
          simp [e]
        · obtain ⟨q, hq⟩ : ∃ q, l[low l k]? = some q := ⟨_, List.getElem?_eq_getElem (by have := (List.getElem?_eq_some_iff.1 hi).1; omega)⟩
          have h4 := hr (low l k) (low l k + i) q p (by omega) hq hi
          have h5 := (low_spec hr k _ q hq).2 (by omega)
          omega
      omega
    rw [pair_I, List.pairwise_append]
    refine ⟨a1, List.pairwise_cons.2 ⟨fun p hp => b2 p hp, a2⟩, fun p hp q hq => ?_⟩
    rcases List.mem_cons.1 hq with rfl | hq
    · exact b1 p hp
    · exact a3 p hp q hq

theorem del_rises {l : Prs} (hr : RisesI l) (k : Int) : RisesI (delL l k) := by
  unfold delL
  split
  · have h0 := pair_I.1 hr
    rw [pair_I]
    refine h0.sublist ?_
    conv => rhs; rw [← List.take_append_drop (low l k) l]
    refine List.Sublist.append (List.Sublist.refl _) ?_
    rw [← List.drop_drop]
    exact List.drop_sublist 1 _
  · exact hr

theorem put_len (l : Prs) (k v : Int) : (putL l k v).length ≤ l.length + 1 := by
  unfold putL
  have := low_le l k
  split
  · simp
  · rw [List.length_append, List.length_cons, List.length_take, List.length_drop]; omega

theorem del_len (l : Prs) (k : Int) : (delL l k).length ≤ l.length := by
  unfold delL
  have := low_le l k
  split
  · rw [List.length_append, List.length_take, List.length_drop]; omega
  · exact Nat.le_refl _
end Go.Proofs.Ytflopmhjgamcfaa

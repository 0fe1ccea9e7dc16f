/-
  Get of With, Without of With, as trees; no conditions.
-/
import Derived.Test.YtcopkhmmpamboaaL23
namespace Go.Proofs.Ytcopkhmmpamboaa
open Go.RowKit
set_option linter.unusedVariables false
set_option linter.unusedSimpArgs false

theorem place_at {ks : List ByteArray} {k : ByteArray} {L : Nat} (hr : RisesK ks) (h : ks[L]? = some k) : placeK ks k = some L :=
  (place_of hr (fun i p hp => by
    constructor
    · intro hi
      exact hr i L p k hi hp h
    · intro hb
      rcases Nat.lt_or_ge i L with hi | hi
      · exact hi
      · rcases Nat.lt_or_eq_of_le hi with h1 | h1
        · have h2 := hr L i k p h1 h hp
          rw [kl_asym h2] at hb
          cases hb
        · subst h1
          rw [h] at hp
          cases hp
          rw [kl_irr] at hb
          cases hb)).1 h

theorem place_some {ks : List ByteArray} {k : ByteArray} {I : Nat} (h : placeK ks k = some I) : ks[I]? = some k := by
  unfold placeK at h
  obtain ⟨hl, h1, _⟩ := List.findIdx?_eq_some_iff_getElem.1 h
  rw [List.getElem?_eq_getElem hl]
  simpa using h1

theorem place_none {ks : List ByteArray} {k : ByteArray} : placeK ks k = none ↔ k ∉ ks := by
  unfold placeK
  rw [List.findIdx?_eq_none_iff]
  constructor
  · intro h hk
    have := h k hk
    simp at this
  · intro h x hx
    simp only [decide_eq_false_iff_not]
    intro e
    subst e
    exact h hx

/-- the key's place in what With gives -/
theorem with_at (l : List Vl) (ks : List ByteArray) (k : ByteArray) (x : Vl) (hl : ks.length = l.length) : (withV l ks k x).ks[tw ks k]? = some k ∧ (withV l ks k x).l[tw ks k]? = some x ∧ (withV l ks k x).kind = 5 := by
  have ht := tw_le ks k
  unfold withV
  split
  · next h =>
    have h1 := (List.getElem?_eq_some_iff.1 h).1
    exact ⟨h, by show (l.set (tw ks k) x)[tw ks k]? = some x; rw [List.getElem?_set, if_pos rfl, if_pos (by omega)], rfl⟩
  · refine ⟨?_, ?_, rfl⟩
    · show (ks.take (tw ks k) ++ k :: ks.drop (tw ks k))[tw ks k]? = some k
      rw [List.getElem?_append_right (by rw [List.length_take]; omega), List.length_take, show min (tw ks k) ks.length = tw ks k by omega, Nat.sub_self]
      rfl
    · show (l.take (tw ks k) ++ x :: l.drop (tw ks k))[tw ks k]? = some x
      rw [List.getElem?_append_right (by rw [List.length_take]; omega), List.length_take, show min (tw ks k) l.length = tw ks k by omega, Nat.sub_self]
      rfl

theorem get_with (l : List Vl) (ks : List ByteArray) (k : ByteArray) (x : Vl) (hl : ks.length = l.length) (hW : rightB (withV l ks k x) = true) : getR (withV l ks k x) k = some x := by
  obtain ⟨h1, h2, h3⟩ := with_at l ks k x hl
  obtain ⟨W, hWW⟩ : ∃ W, withV l ks k x = W := ⟨_, rfl⟩
  rw [hWW] at h1 h2 h3 hW ⊢
  obtain ⟨kd, n, s, l', ks'⟩ := W
  simp only at h1 h2 h3
  subst h3
  rw [getR, if_pos ⟨hW, rfl⟩, place_at (right_keys hW).1 h1]
  exact h2

theorem get_other (n : Int) (s : ByteArray) (l : List Vl) (ks : List ByteArray) (k o : ByteArray) (x : Vl) (hr : rightB (.mk 5 n s l ks) = true) (hW : rightB (withV l ks k x) = true) (ho : o ≠ k) : getR (withV l ks k x) o = getR (.mk 5 n s l ks) o := by
  obtain ⟨hrk, hl⟩ := right_keys hr
  have ht := tw_le ks k
  rw [getR, if_pos ⟨hr, rfl⟩]
  unfold withV at hW ⊢
  split at hW
  · next h =>
    rw [if_pos h, getR, if_pos ⟨hW, rfl⟩]
    cases hp : placeK ks o with
    | none => rfl
    | some I =>
      have h1 := place_some hp
      show (l.set (tw ks k) x)[I]? = l[I]?
      rw [List.getElem?_set, if_neg]
      intro e
      rw [← e, h] at h1
      exact ho (Option.some.inj h1).symm
  · next h =>
    rw [if_neg h, getR, if_pos ⟨hW, rfl⟩]
    have hrk' := (right_keys hW).1
    cases hp : placeK ks o with
    | none =>
      have h1 := place_none.1 hp
      have h2 : placeK (ks.take (tw ks k) ++ k :: ks.drop (tw ks k)) o = none := place_none.2 (fun hm => by
        rcases List.mem_append.1 hm with h3 | h3
        · exact h1 (List.mem_of_mem_take h3)
        · rcases List.mem_cons.1 h3 with h4 | h4
          · exact ho h4
          · exact h1 (List.mem_of_mem_drop h4))
      rw [h2]
      rfl
    | some I =>
      have h1 := place_some hp
      have hIl := (List.getElem?_eq_some_iff.1 h1).1
      by_cases hI : I < tw ks k
      · have h2 : (ks.take (tw ks k) ++ k :: ks.drop (tw ks k))[I]? = some o := by
          rw [List.getElem?_append_left (by rw [List.length_take]; omega), List.getElem?_take_of_lt hI]
          exact h1
        rw [place_at hrk' h2]
        show (l.take (tw ks k) ++ x :: l.drop (tw ks k))[I]? = l[I]?
        rw [List.getElem?_append_left (by rw [List.length_take]; omega), List.getElem?_take_of_lt hI]
      · have h2 : (ks.take (tw ks k) ++ k :: ks.drop (tw ks k))[I + 1]? = some o := by
          rw [List.getElem?_append_right (by rw [List.length_take]; omega), List.length_take, show I + 1 - min (tw ks k) ks.length = (I - tw ks k) + 1 by omega, List.getElem?_cons_succ, List.getElem?_drop, show tw ks k + (I - tw ks k) = I by omega]
          exact h1
        rw [place_at hrk' h2]
        show (l.take (tw ks k) ++ x :: l.drop (tw ks k))[I + 1]? = l[I]?
        rw [List.getElem?_append_right (by rw [List.length_take]; omega), List.length_take, show I + 1 - min (tw ks k) l.length = (I - tw ks k) + 1 by omega, List.getElem?_cons_succ, List.getElem?_drop, show tw ks k + (I - tw ks k) = I by omega]

theorem erase_ins {α : Type} (l : List α) (x : α) (i : Nat) (h : i ≤ l.length) : (l.take i ++ x :: l.drop i).eraseIdx i = l := by
  rw [List.eraseIdx_append_of_length_le (by rw [List.length_take]; omega), List.length_take, show i - min i l.length = 0 by omega]
  show l.take i ++ l.drop i = l
  exact List.take_append_drop i l

/-- Without of With, where the key was not there -/
theorem without_with (n : Int) (s : ByteArray) (l : List Vl) (ks : List ByteArray) (k : ByteArray) (x : Vl) (hr : rightB (.mk 5 n s l ks) = true) (hno : getR (.mk 5 n s l ks) k = none) : (withV l ks k x).l.eraseIdx (tw ks k) = l ∧ (withV l ks k x).ks.eraseIdx (tw ks k) = ks := by
  obtain ⟨hrk, hl⟩ := right_keys hr
  have ht := tw_le ks k
  have hn : ¬ ks[tw ks k]? = some k := fun h => by
    rw [getR, if_pos ⟨hr, rfl⟩, place_at hrk h] at hno
    have h1 := (List.getElem?_eq_some_iff.1 h).1
    have h2 : l[tw ks k]? = none := hno
    rw [List.getElem?_eq_getElem (by omega)] at h2
    cases h2
  unfold withV
  rw [if_neg hn]
  exact ⟨erase_ins l x _ (by omega), erase_ins ks k _ ht⟩
end Go.Proofs.Ytcopkhmmpamboaa

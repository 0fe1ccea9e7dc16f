/-
  Get of With, Without of With, as trees; no conditions.
  value.With, Without and Get, each with one contract; conditions: the form's own reach.
-/
import Derived.Test.YtcopkhmmpamboaaR28
import Derived.Test.YtcopkhmmpamboaaXWithE
import Derived.Test.YtcopkhmmpamboaaXWithoutE
namespace Go.Proofs.Ytcopkhmmpamboaa
open Go.RowKit
set_option linter.unusedVariables false
set_option linter.unusedSimpArgs false

theorem place_at {ks : List ByteArray} {k : ByteArray} {L : Nat} (hr : RisesK ks) (h : ks[L]? = some k) : placeK ks k = some L :=
  (place_of hr (fun i p hp => by
    constructor
    · intro hi
      exact hr i L p k hi hp h
    · intro hb
      rcases Nat.lt_or_ge i L with hi | hi
      · exact hi
      · rcases Nat.lt_or_eq_of_le hi with h1 | h1
        · have h2 := hr L i k p h1 h hp
          rw [kl_asym h2] at hb
          cases hb
        · subst h1
          rw [h] at hp
          cases hp
          rw [kl_irr] at hb
          cases hb)).1 h

theorem place_some {ks : List ByteArray} {k : ByteArray} {I : Nat} (h : placeK ks k = some I) : ks[I]? = some k := by
  unfold placeK at h
  obtain ⟨hl, h1, _⟩ := List.findIdx?_eq_some_iff_getElem.1 h
  rw [List.getElem?_eq_getElem hl]
  simpa using h1

theorem place_none {ks : List ByteArray} {k : ByteArray} : placeK ks k = none ↔ k ∉ ks := by
  unfold placeK
  rw [List.findIdx?_eq_none_iff]
  constructor
  · intro h hk
    have := h k hk
    simp at this
  · intro h x hx
    simp only [decide_eq_false_iff_not]
    intro e
    subst e
    exact h hx

/-- the key's place in what With gives -/
theorem with_at (l : List Vl) (ks : List ByteArray) (k : ByteArray) (x : Vl) (hl : ks.length = l.length) : (withV l ks k x).ks[tw ks k]? = some k ∧ (withV l ks k x).l[tw ks k]? = some x ∧ (withV l ks k x).kind = 5 := by
  have ht := tw_le ks k
  unfold withV
  split
  · next h =>
    have h1 := (List.getElem?_eq_some_iff.1 h).1
    exact ⟨h, by show (l.set (tw ks k) x)[tw ks k]? = some x; rw [List.getElem?_set, if_pos rfl, if_pos (by omega)], rfl⟩
  · refine ⟨?_, ?_, rfl⟩
    · show (ks.take (tw ks k) ++ k :: ks.drop (tw ks k))[tw ks k]? = some k
      rw [List.getElem?_append_right (by rw [List.length_take]; omega), List.length_take, show min (tw ks k) ks.length = tw ks k by omega, Nat.sub_self]
      rfl
    · show (l.take (tw ks k) ++ x :: l.drop (tw ks k))[tw ks k]? = some x
      rw [List.getElem?_append_right (by rw [List.length_take]; omega), List.length_take, show min (tw ks k) l.length = tw ks k by omega, Nat.sub_self]
      rfl

theorem get_with (l : List Vl) (ks : List ByteArray) (k : ByteArray) (x : Vl) (hl : ks.length = l.length) (hW : rightB (withV l ks k x) = true) : getR (withV l ks k x) k = some x := by
  obtain ⟨h1, h2, h3⟩ := with_at l ks k x hl
  obtain ⟨W, hWW⟩ : ∃ W, withV l ks k x = W := ⟨_, rfl⟩
  rw [hWW] at h1 h2 h3 hW ⊢
  obtain ⟨kd, n, s, l', ks'⟩ := W
  simp only at h1 h2 h3
  subst h3
  rw [getR, if_pos ⟨hW, rfl⟩, place_at (right_keys hW).1 h1]
  exact h2

theorem get_other (n : Int) (s : ByteArray) (l : List Vl) (ks : List ByteArray) (k o : ByteArray) (x : Vl) (hr : rightB (.mk 5 n s l ks) = true) (hW : rightB (withV l ks k x) = true) (ho : o ≠ k) : getR (withV l ks k x) o = getR (.mk 5 n s l ks) o := by
  obtain ⟨hrk, hl⟩ := right_keys hr
  have ht := tw_le ks k
  rw [getR, if_pos ⟨hr, rfl⟩]
  unfold withV at hW ⊢
  split at hW
  · next h =>
    rw [if_pos h, getR, if_pos ⟨hW, rfl⟩]
    cases hp : placeK ks o with
    | none => rfl
    | some I =>
      have h1 := place_some hp
      show (l.set (tw ks k) x)[I]? = l[I]?
      rw [List.getElem?_set, if_neg]
      intro e
      rw [← e, h] at h1
      exact ho (Option.some.inj h1).symm
  · next h =>
    rw [if_neg h, getR, if_pos ⟨hW, rfl⟩]
    have hrk' := (right_keys hW).1
    cases hp : placeK ks o with
    | none =>
      have h1 := place_none.1 hp
      have h2 : placeK (ks.take (tw ks k) ++ k :: ks.drop (tw ks k)) o = none := place_none.2 (fun hm => by
        rcases List.mem_append.1 hm with h3 | h3
        · exact h1 (List.mem_of_mem_take h3)
        · rcases List.mem_cons.1 h3 with h4 | h4
          · exact ho h4
          · exact h1 (List.mem_of_mem_drop h4))
      rw [h2]
      rfl
    | some I =>
      have h1 := place_some hp
      have hIl := (List.getElem?_eq_some_iff.1 h1).1
      by_cases hI : I < tw ks k
      · have h2 : (ks.take (tw ks k) ++ k :: ks.drop (tw ks k))[I]? = some o := by
          rw [List.getElem?_append_left (by rw [List.length_take]; omega), List.getElem?_take_of_lt hI]
          exact h1
        rw [place_at hrk' h2]
        show (l.take (tw ks k) ++ x :: l.drop (tw ks k))[I]? = l[I]?
        rw [List.getElem?_append_left (by rw [List.length_take]; omega), List.getElem?_take_of_lt hI]
      · have h2 : (ks.take (tw ks k) ++ k :: ks.drop (tw ks k))[I + 1]? = some o := by
          rw [List.getElem?_append_right (by rw [List.length_take]; omega), List.length_take, show I + 1 - min (tw ks k) ks.length = (I - tw ks k) + 1 by omega, List.getElem?_cons_succ, List.getElem?_drop, show tw ks k + (I - tw ks k) = I by omega]
          exact h1
        rw [place_at hrk' h2]
        show (l.take (tw ks k) ++ x :: l.drop (tw ks k))[I + 1]? = l[I]?
        rw [List.getElem?_append_right (by rw [List.length_take]; omega), List.length_take, show I + 1 - min (tw ks k) l.length = (I - tw ks k) + 1 by omega, List.getElem?_cons_succ, List.getElem?_drop, show tw ks k + (I - tw ks k) = I by omega]

theorem erase_ins {α : Type} (l : List α) (x : α) (i : Nat) (h : i ≤ l.length) : (l.take i ++ x :: l.drop i).eraseIdx i = l := by
  rw [List.eraseIdx_append_of_length_le (by rw [List.length_take]; omega), List.length_take, show i - min i l.length = 0 by omega]
  show l.take i ++ l.drop i = l
  exact List.take_append_drop i l

/-- Without of With, where the key was not there -/
theorem without_with (n : Int) (s : ByteArray) (l : List Vl) (ks : List ByteArray) (k : ByteArray) (x : Vl) (hr : rightB (.mk 5 n s l ks) = true) (hno : getR (.mk 5 n s l ks) k = none) : (withV l ks k x).l.eraseIdx (tw ks k) = l ∧ (withV l ks k x).ks.eraseIdx (tw ks k) = ks := by
  obtain ⟨hrk, hl⟩ := right_keys hr
  have ht := tw_le ks k
  have hn : ¬ ks[tw ks k]? = some k := fun h => by
    rw [getR, if_pos ⟨hr, rfl⟩, place_at hrk h] at hno
    have h1 := (List.getElem?_eq_some_iff.1 h).1
    have h2 : l[tw ks k]? = none := hno
    rw [List.getElem?_eq_getElem (by omega)] at h2
    cases h2
  unfold withV
  rw [if_neg hn]
  exact ⟨erase_ins l x _ (by omega), erase_ins ks k _ ht⟩
end Go.Proofs.Ytcopkhmmpamboaa

namespace Go.Proofs.Ytcopkhmmpamboaa
open Go.RowKit
set_option linter.unusedVariables false
set_option linter.unusedSimpArgs false

/-- what With answers -/
def withE (v : Vl) (key : ByteArray) (x : Vl) : Int := if withC v key x = 0 then (if rightB (withV v.l v.ks key x) = true then 0 else 33) else withC v key x

theorem withC_zero {v x : Vl} {key : ByteArray} (h : withC v key x = 0) : rightB v = true ∧ rightB x = true ∧ v.kind = 5 ∧ key.size ≤ 32 := by
  unfold withC at h
  split at h
  · next h1 =>
    split at h
    · next h2 =>
      split at h
      · next h3 => exact ⟨h1.1, h1.2, h2, h3⟩
      · cases h
    · cases h
  · cases h

theorem with_any (v x : Vl) (vv xx : Value) (B : Nat) (key : ByteArray) (w : World) (hv : IsV w B v vv) (hx : IsV w B x xx) (hBs : B ≤ w.heap.size) :
    Calls Try.prog 15 #[vv, .string key, xx] w fun e w' => ∃ x', e = .returned (.tuple #[x', .int .i64 (withE v key x)]) ∧ Below w.heap.size w w' ∧ (withE v key x = 0 → IsQ w' (fun b => w.heap.size ≤ b ∧ b < w'.heap.size) (withV v.l v.ks key x) x') ∧ (withE v key x ≠ 0 → x' = .agg #[.int .i64 0, .int .i64 0, .string ⟨#[]⟩, .slice none 0 0, .slice none 0 0]) := by
  by_cases h0 : withC v key x = 0
  · obtain ⟨h1, h2, h3, h4⟩ := withC_zero h0
    obtain ⟨k, n, s, l, ks, al, ak, cl, ck, rfl, rfl⟩ := hv.shape
    have h3' : k = 5 := h3
    subst h3'
    have he : withE (.mk 5 n s l ks) key x = if rightB (withV l ks key x) = true then 0 else 33 := by unfold withE; rw [if_pos h0]
    refine (with_in n s l ks al ak cl ck x xx B key w hv hx hBs h1 h2 h4).mono ?_
    rintro e w' ⟨x', rfl, b, q1, q2⟩
    rw [he]
    refine ⟨x', rfl, b, fun h => q1 ?_, fun h => q2 ?_⟩
    · cases hR : rightB (withV l ks key x) with
      | true => rfl
      | false => rw [hR] at h; simp at h
    · cases hR : rightB (withV l ks key x) with
      | true => rw [hR] at h; simp at h
      | false => rfl
  · have he : withE v key x = withC v key x := by unfold withE; rw [if_neg h0]
    rw [he]
    refine (with_no v x vv xx B key w hv hx hBs h0).mono ?_
    rintro e w' ⟨rfl, b⟩
    exact ⟨_, rfl, b, fun h => absurd h h0, fun _ => rfl⟩

theorem withoutC_zero {v : Vl} {key : ByteArray} (h : withoutC v key = 0) : rightB v = true ∧ v.kind = 5 ∧ ∃ I, placeK v.ks key = some I := by
  unfold withoutC at h
  split at h
  · next h1 =>
    split at h
    · next h2 =>
      split at h
      · cases h
      · next h3 =>
        cases hp : placeK v.ks key with
        | none => exact absurd hp h3
        | some I => exact ⟨h1, h2, I, rfl⟩
    · cases h
  · cases h

theorem without_any (v : Vl) (vv : Value) (B : Nat) (key : ByteArray) (w : World) (hv : IsV w B v vv) (hBs : B ≤ w.heap.size) :
    Calls Try.prog 17 #[vv, .string key] w fun e w' => ∃ x', e = .returned (.tuple #[x', .int .i64 (withoutC v key)]) ∧ Below w.heap.size w w' ∧ (∀ I, withoutC v key = 0 → placeK v.ks key = some I → IsQ w' (fun b => w.heap.size ≤ b ∧ b < w'.heap.size) (.mk 5 v.n v.s (v.l.eraseIdx I) (v.ks.eraseIdx I)) x') ∧ (withoutC v key ≠ 0 → x' = .agg #[.int .i64 0, .int .i64 0, .string ⟨#[]⟩, .slice none 0 0, .slice none 0 0]) := by
  by_cases h0 : withoutC v key = 0
  · obtain ⟨h1, h2, I, hI⟩ := withoutC_zero h0
    obtain ⟨k, n, s, l, ks, al, ak, cl, ck, rfl, rfl⟩ := hv.shape
    have h2' : k = 5 := h2
    subst h2'
    rw [h0]
    refine (without_in n s l ks al ak cl ck B key I w hv hBs h1 hI).mono ?_
    rintro e w' ⟨x', rfl, b, q⟩
    refine ⟨x', rfl, b, fun J _ hJ => ?_, fun h => absurd rfl h⟩
    have e1 : some I = some J := hI.symm.trans hJ
    cases e1
    exact q
  · refine (without_no v vv B key w hv hBs h0).mono ?_
    rintro e w' ⟨rfl, b⟩
    exact ⟨_, rfl, b, fun _ h => absurd h h0, fun _ => rfl⟩

theorem get_any (v : Vl) (vv : Value) (B : Nat) (key : ByteArray) (w : World) (hv : IsV w B v vv) (hBs : B ≤ w.heap.size) :
    Calls Try.prog 13 #[vv, .string key] w fun e w' => ∃ x', e = .returned (.tuple #[x', .bool (getR v key).isSome]) ∧ Below w.heap.size w w' ∧ IsV w' w'.heap.size ((getR v key).getD (.mk 0 0 ⟨#[]⟩ [] [])) x' := by
  cases h : getR v key with
  | none =>
    refine (get_no v vv B w hv hBs key h).mono ?_
    rintro e w' ⟨rfl, b⟩
    exact ⟨_, rfl, b, IsP.of (V := fun _ => []) ⟨by omega, by omega, by decide, fun _ => ⟨rfl, rfl⟩, fun _ => ⟨rfl, rfl⟩, Nat.le_refl _, Nat.le_refl _, by decide, by decide, by decide, fun a ha => by (cases ha), fun i hi => by (simp at hi), fun a ha => by (cases ha), fun t ht => by (cases ht)⟩ (fun i y hy => by simp at hy)⟩
  | some y =>
    refine (get_is v vv B w hv hBs key y h).mono ?_
    rintro e w' ⟨x', rfl, b, q⟩
    exact ⟨x', rfl, b, q.isV (fun b hb => hb.2)⟩
end Go.Proofs.Ytcopkhmmpamboaa

/-
  Get of With, Without of With, as trees; no conditions.
  What the document's put makes of rising keys is what With asks; no conditions.
-/
import Derived.Test.YtcopkhmmpamboaaB14
import Derived.Test.YtcopkhmmpamboaaB16
namespace Go.Proofs.Ytcopkhmmpamboaa
open Go.RowKit
set_option linter.unusedVariables false
set_option linter.unusedSimpArgs false

theorem place_at {ks : List ByteArray} {k : ByteArray} {L : Nat} (hr : RisesK ks) (h : ks[L]? = some k) : placeK ks k = some L :=
  (place_of hr (fun i p hp => by
    constructor
    · intro hi
      exact hr i L p k hi hp h
    · intro hb
      rcases Nat.lt_or_ge i L with hi | hi
      · exact hi
      · rcases Nat.lt_or_eq_of_le hi with h1 | h1
        · have h2 := hr L i k p h1 h hp
          rw [kl_asym h2] at hb
          cases hb
        · subst h1
          rw [h] at hp
          cases hp
          rw [kl_irr] at hb
          cases hb)).1 h

theorem place_some {ks : List ByteArray} {k : ByteArray} {I : Nat} (h : placeK ks k = some I) : ks[I]? = some k := by
  unfold placeK at h
  obtain ⟨hl, h1, _⟩ := List.findIdx?_eq_some_iff_getElem.1 h
  rw [List.getElem?_eq_getElem hl]
  simpa using h1

theorem place_none {ks : List ByteArray} {k : ByteArray} : placeK ks k = none ↔ k ∉ ks := by
  unfold placeK
  rw [List.findIdx?_eq_none_iff]
  constructor
  · intro h hk
    have := h k hk
    simp at this
  · intro h x hx
    simp only [decide_eq_false_iff_not]
    intro e
    subst e
    exact h hx

/-- the key's place in what With gives -/
theorem with_at (l : List Vl) (ks : List ByteArray) (k : ByteArray) (x : Vl) (hl : ks.length = l.length) : (withV l ks k x).ks[tw ks k]? = some k ∧ (withV l ks k x).l[tw ks k]? = some x ∧ (withV l ks k x).kind = 5 := by
  have ht := tw_le ks k
  unfold withV
  split
  · next h =>
    have h1 := (List.getElem?_eq_some_iff.1 h).1
    exact ⟨h, by show (l.set (tw ks k) x)[tw ks k]? = some x; rw [List.getElem?_set, if_pos rfl, if_pos (by omega)], rfl⟩
  · refine ⟨?_, ?_, rfl⟩
    · show (ks.take (tw ks k) ++ k :: ks.drop (tw ks k))[tw ks k]? = some k
      rw [List.getElem?_append_right (by rw [List.length_take]; omega), List.length_take, show min (tw ks k) ks.length = tw ks k by omega, Nat.sub_self]
      rfl
    · show (l.take (tw ks k) ++ x :: l.drop (tw ks k))[tw ks k]? = some x
      rw [List.getElem?_append_right (by rw [List.length_take]; omega), List.length_take, show min (tw ks k) l.length = tw ks k by omega, Nat.sub_self]
      rfl

theorem get_with (l : List Vl) (ks : List ByteArray) (k : ByteArray) (x : Vl) (hl : ks.length = l.length) (hW : rightB (withV l ks k x) = true) : getR (withV l ks k x) k = some x := by
  obtain ⟨h1, h2, h3⟩ := with_at l ks k x hl
  obtain ⟨W, hWW⟩ : ∃ W, withV l ks k x = W := ⟨_, rfl⟩
  rw [hWW] at h1 h2 h3 hW ⊢
  obtain ⟨kd, n, s, l', ks'⟩ := W
  simp only at h1 h2 h3
  subst h3
  rw [getR, if_pos ⟨hW, rfl⟩, place_at (right_keys hW).1 h1]
  exact h2

theorem get_other (n : Int) (s : ByteArray) (l : List Vl) (ks : List ByteArray) (k o : ByteArray) (x : Vl) (hr : rightB (.mk 5 n s l ks) = true) (hW : rightB (withV l ks k x) = true) (ho : o ≠ k) : getR (withV l ks k x) o = getR (.mk 5 n s l ks) o := by
  obtain ⟨hrk, hl⟩ := right_keys hr
  have ht := tw_le ks k
  rw [getR, if_pos ⟨hr, rfl⟩]
  unfold withV at hW ⊢
  split at hW
  · next h =>
    rw [if_pos h, getR, if_pos ⟨hW, rfl⟩]
    cases hp : placeK ks o with
    | none => rfl
    | some I =>
      have h1 := place_some hp
      show (l.set (tw ks k) x)[I]? = l[I]?
      rw [List.getElem?_set, if_neg]
      intro e
      rw [← e, h] at h1
      exact ho (Option.some.inj h1).symm
  · next h =>
    rw [if_neg h, getR, if_pos ⟨hW, rfl⟩]
    have hrk' := (right_keys hW).1
    cases hp : placeK ks o with
    | none =>
      have h1 := place_none.1 hp
      have h2 : placeK (ks.take (tw ks k) ++ k :: ks.drop (tw ks k)) o = none := place_none.2 (fun hm => by
        rcases List.mem_append.1 hm with h3 | h3
        · exact h1 (List.mem_of_mem_take h3)
        · rcases List.mem_cons.1 h3 with h4 | h4
          · exact ho h4
          · exact h1 (List.mem_of_mem_drop h4))
      rw [h2]
      rfl
    | some I =>
      have h1 := place_some hp
      have hIl := (List.getElem?_eq_some_iff.1 h1).1
      by_cases hI : I < tw ks k
      · have h2 : (ks.take (tw ks k) ++ k :: ks.drop (tw ks k))[I]? = some o := by
          rw [List.getElem?_append_left (by rw [List.length_take]; omega), List.getElem?_take_of_lt hI]
          exact h1
        rw [place_at hrk' h2]
        show (l.take (tw ks k) ++ x :: l.drop (tw ks k))[I]? = l[I]?
        rw [List.getElem?_append_left (by rw [List.length_take]; omega), List.getElem?_take_of_lt hI]
      · have h2 : (ks.take (tw ks k) ++ k :: ks.drop (tw ks k))[I + 1]? = some o := by
          rw [List.getElem?_append_right (by rw [List.length_take]; omega), List.length_take, show I + 1 - min (tw ks k) ks.length = (I - tw ks k) + 1 by omega, List.getElem?_cons_succ, List.getElem?_drop, show tw ks k + (I - tw ks k) = I by omega]
          exact h1
        rw [place_at hrk' h2]
        show (l.take (tw ks k) ++ x :: l.drop (tw ks k))[I + 1]? = l[I]?
        rw [List.getElem?_append_right (by rw [List.length_take]; omega), List.length_take, show I + 1 - min (tw ks k) l.length = (I - tw ks k) + 1 by omega, List.getElem?_cons_succ, List.getElem?_drop, show tw ks k + (I - tw ks k) = I by omega]

theorem erase_ins {α : Type} (l : List α) (x : α) (i : Nat) (h : i ≤ l.length) : (l.take i ++ x :: l.drop i).eraseIdx i = l := by
  rw [List.eraseIdx_append_of_length_le (by rw [List.length_take]; omega), List.length_take, show i - min i l.length = 0 by omega]
  show l.take i ++ l.drop i = l
  exact List.take_append_drop i l

/-- Without of With, where the key was not there -/
theorem without_with (n : Int) (s : ByteArray) (l : List Vl) (ks : List ByteArray) (k : ByteArray) (x : Vl) (hr : rightB (.mk 5 n s l ks) = true) (hno : getR (.mk 5 n s l ks) k = none) : (withV l ks k x).l.eraseIdx (tw ks k) = l ∧ (withV l ks k x).ks.eraseIdx (tw ks k) = ks := by
  obtain ⟨hrk, hl⟩ := right_keys hr
  have ht := tw_le ks k
  have hn : ¬ ks[tw ks k]? = some k := fun h => by
    rw [getR, if_pos ⟨hr, rfl⟩, place_at hrk h] at hno
    have h1 := (List.getElem?_eq_some_iff.1 h).1
    have h2 : l[tw ks k]? = none := hno
    rw [List.getElem?_eq_getElem (by omega)] at h2
    cases h2
  unfold withV
  rw [if_neg hn]
  exact ⟨erase_ins l x _ (by omega), erase_ins ks k _ ht⟩
end Go.Proofs.Ytcopkhmmpamboaa

namespace Go.Proofs.Ytcopkhmmpamboaa
open Go.RowKit
set_option linter.unusedVariables false
set_option linter.unusedSimpArgs false

theorem fold_less {α : Type} (key : ByteArray) (x : α) : ∀ (ts : List (ByteArray × α)) (acc : List (ByteArray × α)), (∀ t ∈ ts, bl t.1 key = true) → ts.foldl (putStep key x) (acc, false) = (acc ++ ts, false)
  | [], acc, _ => by simp
  | t :: r, acc, h => by
    have h1 := h t List.mem_cons_self
    have hne : ¬ t.1 = key := fun e => by rw [e, kl_irr] at h1; cases h1
    rw [List.foldl_cons]
    have hs : putStep key x (acc, false) t = (acc ++ [t], false) := by
      unfold putStep
      simp [hne, h1]
    rw [hs, fold_less key x r _ (fun z hz => h z (List.mem_cons_of_mem _ hz))]
    simp

theorem fold_done {α : Type} (key : ByteArray) (x : α) : ∀ (ts : List (ByteArray × α)) (acc : List (ByteArray × α)), (∀ t ∈ ts, ¬ t.1 = key) → ts.foldl (putStep key x) (acc, true) = (acc ++ ts, true)
  | [], acc, _ => by simp
  | t :: r, acc, h => by
    have hne := h t List.mem_cons_self
    rw [List.foldl_cons]
    have hs : putStep key x (acc, true) t = (acc ++ [t], true) := by
      unfold putStep
      simp [hne]
    rw [hs, fold_done key x r _ (fun z hz => h z (List.mem_cons_of_mem _ hz))]
    simp

/-- what put makes, its place told -/
theorem putF_at {α : Type} (key : ByteArray) (x : α) (A B : List (ByteArray × α)) (hA : ∀ t ∈ A, bl t.1 key = true) (hB : ∀ t ∈ B, bl key t.1 = true) : putF key x (A ++ B) = A ++ (key, x) :: B ∧ ∀ y, putF key x (A ++ (key, y) :: B) = A ++ (key, x) :: B := by
  have hne : ∀ t ∈ B, ¬ t.1 = key := fun t ht e => by have := hB t ht; rw [e, kl_irr] at this; cases this
  have hnl : ∀ t ∈ B, bl t.1 key = false := fun t ht => kl_asym (hB t ht)
  constructor
  · unfold putF
    rw [List.foldl_append, fold_less key x A [] hA]
    cases B with
    | nil => simp [putEnd]
    | cons t r =>
      have h1 := hne t List.mem_cons_self
      have h2 := hnl t List.mem_cons_self
      rw [List.foldl_cons]
      have hs : putStep key x ([] ++ A, false) t = (A ++ [(key, x), t], true) := by
        unfold putStep
        simp [h1, h2]
      rw [hs, fold_done key x r _ (fun z hz => hne z (List.mem_cons_of_mem _ hz))]
      simp [putEnd]
  · intro y
    unfold putF
    rw [List.foldl_append, fold_less key x A [] hA, List.foldl_cons]
    have hs : putStep key x ([] ++ A, false) (key, y) = (A ++ [(key, x)], true) := by
      unfold putStep
      simp [kl_irr]
    rw [hs, fold_done key x B _ hne]
    simp [putEnd]

theorem tw_split {ks : List ByteArray} {key : ByteArray} (hr : RisesK ks) : (∀ t ∈ ks.take (tw ks key), bl t key = true) ∧ (∀ t ∈ ks.drop (tw ks key), bl t key = false) := by
  have hp : ks.take (tw ks key) = ks.takeWhile (fun p => bl p key) := by
    have h := List.takeWhile_prefix (l := ks) (fun p => bl p key)
    exact (List.prefix_iff_eq_take.1 h).symm
  refine ⟨fun t ht => ?_, fun t ht => ?_⟩
  · rw [hp] at ht
    exact List.all_eq_true.1 (List.all_takeWhile (p := fun p => bl p key) (l := ks)) t ht
  · obtain ⟨j, hj⟩ := List.getElem?_of_mem ht
    rw [List.getElem?_drop] at hj
    have hd : ks.drop (tw ks key) = ks.dropWhile (fun p => bl p key) := by
      have h1 := List.takeWhile_append_dropWhile (p := fun p => bl p key) (l := ks)
      have h2 := List.take_append_drop (tw ks key) ks
      rw [hp] at h2
      exact List.append_cancel_left (h2.trans h1.symm)
    cases hb : bl t key with
    | false => rfl
    | true =>
      have hlen := (List.getElem?_eq_some_iff.1 hj).1
      obtain ⟨q, hq⟩ : ∃ q, ks[tw ks key]? = some q := ⟨_, List.getElem?_eq_getElem (by omega)⟩
      have hq0 : bl q key = false := by
        have h3 : (ks.drop (tw ks key))[0]? = some q := by rw [List.getElem?_drop]; simpa using hq
        rw [hd] at h3
        have h4 := List.head?_dropWhile_not (fun p => bl p key) ks
        rw [List.head?_eq_getElem?, h3] at h4
        simpa using h4
      rcases Nat.eq_zero_or_pos j with e | e
      · subst e
        rw [Nat.add_zero, hq] at hj
        cases hj
        rw [hq0] at hb
        cases hb
      · have h5 := hr (tw ks key) (tw ks key + j) q t (by omega) hq hj
        rw [kl_trans h5 hb] at hq0
        cases hq0

theorem put_with (l : List Vl) (ks : List ByteArray) (key : ByteArray) (x : Vl) (hr : RisesK ks) (hl : ks.length = l.length) : putVl l ks key x = withV l ks key x := by
  obtain ⟨hA, hB⟩ := tw_split (key := key) hr
  have hle := tw_le ks key
  obtain ⟨L, hL⟩ : ∃ L, tw ks key = L := ⟨_, rfl⟩
  rw [hL] at hA hB hle
  obtain ⟨ts, hts⟩ : ∃ ts, ks.zip l = ts := ⟨_, rfl⟩
  have m1 : ts.map (·.1) = ks := by rw [← hts]; exact List.map_fst_zip (by omega)
  have m2 : ts.map (·.2) = l := by rw [← hts]; exact List.map_snd_zip (by omega)
  have hsp : ts = ts.take L ++ ts.drop L := (List.take_append_drop L ts).symm
  have hA' : ∀ t ∈ ts.take L, bl t.1 key = true := fun t ht => hA t.1 (by rw [← m1, ← List.map_take]; exact List.mem_map_of_mem ht)
  have hk : ∀ (i : Nat) (t : ByteArray × Vl), ts[i]? = some t → ks[i]? = some t.1 := fun i t ht => by rw [← m1, List.getElem?_map, ht]; rfl
  unfold putVl withV
  rw [hts, hL]
  by_cases hat : ks[L]? = some key
  · rw [if_pos hat]
    have hlt := (List.getElem?_eq_some_iff.1 hat).1
    have hlen : ts.length = ks.length := by rw [← m1, List.length_map]
    obtain ⟨t, ht⟩ : ∃ t, ts[L]? = some t := ⟨_, List.getElem?_eq_getElem (by omega)⟩
    have e1 : t.1 = key := by have := hk L t ht; rw [hat] at this; exact (Option.some.inj this).symm
    have hd : ts.drop L = t :: ts.drop (L + 1) := by
      obtain ⟨h1, h2⟩ := List.getElem?_eq_some_iff.1 ht
      rw [← h2]
      exact List.drop_eq_getElem_cons h1
    have hB' : ∀ z ∈ ts.drop (L + 1), bl key z.1 = true := fun z hz => by
      obtain ⟨j, hj⟩ := List.getElem?_of_mem hz
      rw [List.getElem?_drop] at hj
      have := hr L (L + 1 + j) key z.1 (by omega) hat (hk _ z hj)
      exact this
    have hF := (putF_at key x (ts.take L) (ts.drop (L + 1)) hA' hB').2 t.2
    have hts2 : ts.take L ++ (key, t.2) :: ts.drop (L + 1) = ts := by
      rw [← e1]
      show ts.take L ++ t :: ts.drop (L + 1) = ts
      rw [← hd]
      exact hsp.symm
    rw [hts2] at hF
    rw [hF]
    congr 1
    · rw [List.map_append, List.map_cons, List.map_take, List.map_drop, m2, List.set_eq_take_append_cons_drop, if_pos (by omega)]
    · rw [List.map_append, List.map_cons, List.map_take, List.map_drop, m1]
      obtain ⟨h1, h2⟩ := List.getElem?_eq_some_iff.1 hat
      conv => rhs; rw [← List.take_append_drop L ks, List.drop_eq_getElem_cons h1, h2]
  · rw [if_neg hat]
    have hB' : ∀ z ∈ ts.drop L, bl key z.1 = true := fun z hz => by
      obtain ⟨j, hj⟩ := List.getElem?_of_mem hz
      rw [List.getElem?_drop] at hj
      have h1 := hk _ z hj
      have h2 := hB z.1 (by rw [← m1, ← List.map_drop]; exact List.mem_map_of_mem hz)
      rcases kl_tri z.1 key with h3 | h3 | h3
      · rw [h3] at h2; cases h2
      · exfalso
        rcases Nat.eq_zero_or_pos j with e | e
        · subst e
          rw [Nat.add_zero, h3] at h1
          exact hat h1
        · obtain ⟨q, hq⟩ : ∃ q, ks[L]? = some q := ⟨_, List.getElem?_eq_getElem (by have := (List.getElem?_eq_some_iff.1 h1).1; omega)⟩
          have h4 := hr L (L + j) q z.1 (by omega) hq h1
          rw [h3] at h4
          have h5 := hB q (List.mem_of_getElem? (i := 0) (by rw [List.getElem?_drop]; simpa using hq))
          rw [h4] at h5
          cases h5
      · exact h3
    have hF := (putF_at key x (ts.take L) (ts.drop L) hA' hB').1
    rw [← hsp] at hF
    rw [hF]
    congr 1
    · rw [List.map_append, List.map_cons, List.map_take, List.map_drop, m2]
    · rw [List.map_append, List.map_cons, List.map_take, List.map_drop, m1]
end Go.Proofs.Ytcopkhmmpamboaa

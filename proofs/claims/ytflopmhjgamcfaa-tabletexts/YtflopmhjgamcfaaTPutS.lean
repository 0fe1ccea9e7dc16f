/-
  Put into a table of texts: the keys go on rising, the pair is there, and no other of its key; no conditions but that the row's bytes are within 2^47.
-/
import Derived.Test.YtflopmhjgamcfaaTFindS
import Derived.Test.YtflopmhjgamcfaaTInsS
namespace Go.Proofs.Ytflopmhjgamcfaa
open Go.RowKit

/-- what a call that works on one table leaves as it was -/
structure Turns (w w' : World) (g : Nat) (v : Value) : Prop where
  os : w'.os = w.os
  tape : w'.tape = w.tape
  output : w'.output = w.output
  size : w.heap.size ≤ w'.heap.size
  block : ∀ k, k < w.heap.size → k ≠ g → some k ≠ v.ownBlock → w'.heap[k]? = w.heap[k]?

theorem Turns.below {w w' : World} {g : Nat} {v : Value} (h : Turns w w' g v) {B : Nat} (hB : B ≤ w.heap.size) (hg : B ≤ g) (hv : ∀ b, v.ownBlock = some b → B ≤ b) : Below B w w' :=
  ⟨h.os, h.tape, h.output, h.size, fun k hk => h.block k (by omega) (by omega) (fun e => by have := hv k e.symm; omega)⟩

section
variable {l : List (ByteArray × Value)} {k : ByteArray} {th : Value} {L : Nat}

/-- the place of a key: all ahead are less, none behind is -/
def Low (l : List (ByteArray × Value)) (k : ByteArray) (L : Nat) : Prop := L ≤ l.length ∧ ∀ (i : Nat) (p : ByteArray × Value), l[i]? = some p → (i < L ↔ bl p.1 k = true)

theorem rises_eq (hr : RisesS l) {i j : Nat} {p q : ByteArray × Value} (hi : l[i]? = some p) (hj : l[j]? = some q) (he : p.1 = q.1) : i = j := by
  rcases Nat.lt_trichotomy i j with h | h | h
  · have := hr i j p q h hi hj
    rw [he, bl_irr] at this
    cases this
  · exact h
  · have := hr j i q p h hj hi
    rw [he, bl_irr] at this
    cases this

/-- a key that does not stand at its place is nowhere -/
theorem low_absent (hr : RisesS l) (hL : Low l k L) (hn : (l.map Prod.fst)[L]? ≠ some k) {p : ByteArray × Value} (hp : p ∈ l) : p.1 ≠ k := by
  intro e
  obtain ⟨i, hi⟩ := List.mem_iff_getElem?.1 hp
  have h1 := hL.2 i p hi
  rw [e, bl_irr] at h1
  have h2 : L ≤ i := by
    rcases Nat.lt_or_ge i L with h | h
    · have := h1.1 h; cases this
    · exact h
  rcases Nat.lt_or_ge L i with h | h
  · obtain ⟨q, hq⟩ : ∃ q, l[L]? = some q := ⟨_, List.getElem?_eq_getElem (by have := (List.getElem?_eq_some_iff.1 hi).1; omega)⟩
    have h3 := hr L i q p h hq hi
    rw [e] at h3
    have := (hL.2 L q hq).2 h3
    omega
  · have : L = i := by omega
    subst this
    exact hn (by rw [List.getElem?_map, hi]; simp [e])

theorem ins_mem (p : ByteArray × Value) (hr : RisesS l) (hL : Low l k L) (hn : (l.map Prod.fst)[L]? ≠ some k) : p ∈ l.take L ++ (k, th) :: l.drop L ↔ p = (k, th) ∨ (p ∈ l ∧ p.1 ≠ k) := by
  have h : p ∈ l ↔ p ∈ l.take L ∨ p ∈ l.drop L := by
    conv => lhs; rw [← List.take_append_drop L l]
    rw [List.mem_append]
  rw [List.mem_append, List.mem_cons]
  constructor
  · rintro (h1 | h1 | h1)
    · exact .inr ⟨h.2 (.inl h1), low_absent hr hL hn (h.2 (.inl h1))⟩
    · exact .inl h1
    · exact .inr ⟨h.2 (.inr h1), low_absent hr hL hn (h.2 (.inr h1))⟩
  · rintro (h1 | ⟨h1, _⟩)
    · exact .inr (.inl h1)
    · rcases h.1 h1 with h2 | h2
      · exact .inl h2
      · exact .inr (.inr h2)

theorem rises_pair : RisesS l ↔ l.Pairwise (fun p q => bl p.1 q.1 = true) := by
  rw [List.pairwise_iff_getElem]
  constructor
  · intro h i j hi hj hij
    exact h i j _ _ hij (List.getElem?_eq_getElem hi) (List.getElem?_eq_getElem hj)
  · intro h i j p q hij hp hq
    obtain ⟨hi, rfl⟩ := List.getElem?_eq_some_iff.1 hp
    obtain ⟨hj, rfl⟩ := List.getElem?_eq_some_iff.1 hq
    exact h i j hi hj hij

theorem ins_rises (hr : RisesS l) (hL : Low l k L) (hn : (l.map Prod.fst)[L]? ≠ some k) : RisesS (l.take L ++ (k, th) :: l.drop L) := by
  have h0 := rises_pair.1 hr
  rw [← List.take_append_drop L l, List.pairwise_append] at h0
  obtain ⟨a1, a2, a3⟩ := h0
  have b1 : ∀ p ∈ l.take L, bl p.1 k = true := fun p hp => by
    obtain ⟨i, hi⟩ := List.mem_iff_getElem?.1 hp
    rw [List.getElem?_take] at hi
    split at hi
    · rename_i hlt
      exact (hL.2 i p hi).1 hlt
    · cases hi
  have b2 : ∀ p ∈ l.drop L, bl k p.1 = true := fun p hp => by
    obtain ⟨i, hi⟩ := List.mem_iff_getElem?.1 hp
    rw [List.getElem?_drop] at hi
    rcases bl_tri p.1 k with h | h | h
    · have := (hL.2 _ p hi).2 h
      omega
    · exact absurd h (low_absent hr hL hn (List.mem_of_mem_drop hp))
    · exact h
  rw [rises_pair, List.pairwise_append]
  refine ⟨a1, List.pairwise_cons.2 ⟨fun p hp => b2 p hp, a2⟩, fun p hp q hq => ?_⟩
  rcases List.mem_cons.1 hq with rfl | hq
  · exact b1 p hp
  · exact a3 p hp q hq

theorem set_rises (hr : RisesS l) (hk : (l.map Prod.fst)[L]? = some k) : RisesS (l.set L (k, th)) := by
  have key : ∀ (i : Nat) (p : ByteArray × Value), (l.set L (k, th))[i]? = some p → ∃ q, l[i]? = some q ∧ q.1 = p.1 := by
    intro i p hp
    rw [List.getElem?_set] at hp
    split at hp
    · rename_i h
      subst h
      split at hp
      · rename_i hlt
        rw [List.getElem?_map] at hk
        obtain ⟨q, hq, he⟩ := Option.map_eq_some_iff.1 hk
        cases hp
        exact ⟨q, hq, he⟩
      · cases hp
    · exact ⟨p, hp, rfl⟩
  intro i j p q hij hp hq
  obtain ⟨p', hp', e1⟩ := key i p hp
  obtain ⟨q', hq', e2⟩ := key j q hq
  rw [← e1, ← e2]
  exact hr i j p' q' hij hp' hq'

theorem set_mem (p : ByteArray × Value) (hr : RisesS l) (hk : (l.map Prod.fst)[L]? = some k) : p ∈ l.set L (k, th) ↔ p = (k, th) ∨ (p ∈ l ∧ p.1 ≠ k) := by
  rw [List.getElem?_map] at hk
  obtain ⟨q, hq, he⟩ := Option.map_eq_some_iff.1 hk
  have hlt := (List.getElem?_eq_some_iff.1 hq).1
  constructor
  · intro h
    obtain ⟨i, hi⟩ := List.mem_iff_getElem?.1 h
    rw [List.getElem?_set] at hi
    split at hi
    · cases hi
      exact .inl rfl
    · rename_i hne
      refine .inr ⟨List.mem_of_getElem? hi, fun e => hne (rises_eq hr hq hi (by rw [e, he]))⟩
  · rintro (rfl | ⟨h1, h2⟩)
    · exact List.mem_iff_getElem?.2 ⟨L, by rw [List.getElem?_set_self hlt]⟩
    · obtain ⟨i, hi⟩ := List.mem_iff_getElem?.1 h1
      refine List.mem_iff_getElem?.2 ⟨i, ?_⟩
      rw [List.getElem?_set_ne]
      · exact hi
      · intro e
        subst e
        rw [hq] at hi
        cases hi
        exact h2 he
end

theorem valsS_set (l : List (ByteArray × Value)) (L : Nat) (k : ByteArray) (th : Value) : valsS (l.set L (k, th)) = (valsS l).set L (.string k, th) := by simp [valsS, List.map_set]

theorem cells2_set : ∀ (l : List (Value × Value)) (i : Nat) (p : Value × Value) (y : Value), l[i]? = some p → cells2 (l.set i (p.1, y)) = (cells2 l).set (i * 2 + 1) y
  | [], i, p, y, h => by simp at h
  | q :: l, 0, p, y, h => by
    simp only [List.getElem?_cons_zero, Option.some.injEq] at h
    subst h
    simp [cells2_cons]
  | q :: l, i + 1, p, y, h => by
    rw [List.getElem?_cons_succ] at h
    rw [List.set_cons_succ, cells2_cons, cells2_cons, cells2_set l i p y h, show (i + 1) * 2 + 1 = (i * 2 + 1) + 1 + 1 by omega, List.set_cons_succ, List.set_cons_succ]

theorem ones (l : List (ByteArray × Value)) (h : ∀ p ∈ l, p.2.oneCell' = true) : ∀ u ∈ cells2 (valsS l), u.oneCell' = true := by
  induction l with
  | nil => intro u hu; cases hu
  | cons p r ih =>
    intro u hu
    have e : valsS (p :: r) = (.string p.1, p.2) :: valsS r := rfl
    rw [e, cells2_cons, List.mem_cons, List.mem_cons] at hu
    rcases hu with rfl | rfl | hu
    · rfl
    · exact h p List.mem_cons_self
    · exact ih (fun q hq => h q (List.mem_cons_of_mem _ hq)) u hu

set_option maxRecDepth 100000 in
set_option maxHeartbeats 800000 in
theorem put_S {base g : Nat} {v : Value} {l : List (ByteArray × Value)} {w : World} (h : TabS w base g v l) (hg : some g ≠ v.ownBlock) (hr : RisesS l) (h1 : ∀ p ∈ l, p.2.oneCell' = true) (k : ByteArray) (ta : Option Addr) (tn tc : Nat) (hb : (l.length + 1) * 40 ≤ 140737488355328) (hbase : base ≤ w.heap.size) :
    Calls Try.prog 15 #[.pointer (some ⟨g, 0, none⟩), .string k, .slice ta tn tc] w fun e w' => ∃ v' l' r, e = .returned (.bool r) ∧ TabS w' base g v' l' ∧ RisesS l' ∧ (∀ p, p ∈ l' ↔ p = (k, .slice ta tn tc) ∨ (p ∈ l ∧ p.1 ≠ k)) ∧ l'.length ≤ l.length + 1 ∧ 0 < l'.length ∧ some g ≠ v'.ownBlock ∧ (∀ b, v'.ownBlock = some b → v.ownBlock = some b ∨ w.heap.size ≤ b) ∧ Turns w w' g v := by
  have CF := hide (find_S h hr k)
  have HH := hide h
  have HR := hide (And.intro hr h1)
  clear hr h1
  go_enter Try.func15, Try.ntmps15
  go_wp2_with fail
  refine (unhide CF).mono ?_
  rintro e w1 ⟨L, rfl, hL, hlow, q, rfl⟩
  have HL : Hid (Low l k L) := hide ⟨hL, hlow⟩
  have c0 : (w.drewN q).cell? ⟨g, 0, none⟩ = some v := h.cell
  clear CF hlow h
  by_cases hk : (l.map Prod.fst)[L]? = some k
  · rw [decide_eq_true hk]
    obtain ⟨ao, cap, rfl, hcap, hmax, hnone, hsome⟩ := own_shape (unhide HH).row
    rw [valsS_len] at c0 hcap hnone
    obtain ⟨p, hp, hpk⟩ : ∃ p, l[L]? = some p ∧ p.1 = k := by
      rw [List.getElem?_map] at hk
      obtain ⟨p, hp, he⟩ := Option.map_eq_some_iff.1 hk
      exact ⟨p, hp, he⟩
    have hlt : L < l.length := (List.getElem?_eq_some_iff.1 hp).1
    obtain ⟨b, rfl⟩ : ∃ b, ao = some ⟨b, 0, none⟩ := by
      cases ao with
      | none => have := hnone rfl; omega
      | some ad => obtain ⟨b, rfl, _⟩ := hsome ad rfl; exact ⟨b, rfl⟩
    obtain ⟨cur, hbs, hgb, hc, hm, hcs, htk⟩ : ∃ cur : Array Value, base ≤ b ∧ w.heap[b]? = some (.cells cur 78 (0, 0)) ∧ l.length ≤ cap ∧ cap ≤ maxLen ∧ cur.size = cap * 2 ∧ cur.toList.take (l.length * 2) = cells2 (valsS l) := by
      rcases (unhide HH).row.2 with ⟨e, _⟩ | ⟨g', cap', cur, e, hb', hg', hc, hm, hs, ht⟩
      · cases e
      · cases e
        exact ⟨cur, hb', hg', by rw [valsS_len] at hc; exact hc, hm, hs, by rw [valsS_len] at ht; exact ht⟩
    have hpc : (w.drewN q).cell? ⟨b, L * 2 + 1, none⟩ = some p.2 := by
      obtain ⟨b', e, _, _, hcell⟩ := hsome _ rfl
      cases e
      exact (hcell L _ (valsS_at hp)).2
    have hfr : (w.drewN q).frozen? ⟨b, L * 2 + 1, none⟩ = false := frozen_of_row (w.drewN q) b (L * 2 + 1) cur _ hgb
    have hmx : l.length ≤ 9223372036854775807 := by unfold maxLen at hm; omega
    have HX := hide (And.intro hbs (And.intro hgb (And.intro hc (And.intro hm (And.intro hcs htk)))))
    have HP := hide (And.intro hp hpk)
    have HKK := hide hk
    obtain ⟨n, hn⟩ : ∃ n, l.length = n := ⟨_, rfl⟩
    rw [hn] at c0 hlt hmx
    have HN := hide hn
    have i1 : (L : Int) < (n : Int) := by omega
    clear hbs hgb hc hm hcs htk hp hpk hk hn hsome hnone hcap hmax
    obtain ⟨y, hy⟩ : ∃ y, p.2 = y := ⟨_, rfl⟩
    rw [hy] at hpc
    go_wp2_with fail
    go_ret
    obtain ⟨hbs, hgb, hc, hm, hcs, htk⟩ := unhide HX
    obtain ⟨hp, hpk⟩ := unhide HP
    have hn := unhide HN
    have hgb' : (w.drewN q).heap[b]? = some (.cells cur 78 (0, 0)) := hgb
    have hne : g ≠ b := fun e => hg (by rw [e]; rfl)
    have hlen : (valsS (l.set L (k, .slice ta tn tc))).length = (valsS l).length := by rw [valsS_len, valsS_len, List.length_set]
    have hcell : cells2 (valsS (l.set L (k, .slice ta tn tc))) = (cells2 (valsS l)).set (L * 2 + 1) (.slice ta tn tc) := by
      rw [valsS_set, ← hpk]
      exact cells2_set (valsS l) L _ _ (valsS_at hp)
    refine ⟨.slice (some ⟨b, 0, none⟩) (valsS l).length cap, l.set L (k, .slice ta tn tc), true, rfl, ⟨?_, ?_⟩, set_rises (unhide HR).1 (unhide HKK), fun p' => set_mem p' (unhide HR).1 (unhide HKK), by rw [List.length_set]; omega, by rw [List.length_set]; omega, hg, fun b' hb' => .inl hb', ⟨rfl, rfl, rfl, by simp, fun j hj hj1 hj2 => ?_⟩⟩
    · rw [heap_setCell_other _ _ _ _ hne]
      exact (unhide HH).here
    · rw [hlen]
      refine ⟨by rw [hcell, List.length_set, cells2_len], .inr ⟨b, cap, _, rfl, hbs, heap_setCell_same (w.drewN q) b (L * 2 + 1) cur _ (.slice ta tn tc) hgb', by rw [valsS_len]; exact hc, hm, by simpa using hcs, ?_⟩⟩
      rw [hcell, valsS_len, ← htk]
      simp [List.take_set]
    · rw [heap_setCell_other _ _ _ _ (fun e => hj2 (by rw [e]; rfl))]
      rfl
  · rw [decide_eq_false hk]
    go_wp2_with fail
    obtain ⟨w2, hw2⟩ : ∃ w2, (w.drewN q).alloc (.cells #[.string k, .slice ta tn tc] 78) = w2 := ⟨_, rfl⟩
    have M := new_pair (w.drewN q) (.string k) (.slice ta tn tc) 78
    rw [hw2] at M ⊢
    obtain ⟨m1, m2, m3⟩ := M
    have m1' : w2.heap[w.heap.size]? = some (.cells #[.string k, .slice ta tn tc] 78 (0, 0)) := m1
    have m2' : Below w.heap.size w w2 := ⟨m2.os, m2.tape, m2.output, m2.size, m2.block⟩
    have m3' : w2.heap.size = w.heap.size + 1 := m3
    have ho := own_below (unhide HH).row m2'
    have CI := insert_S base v (.string k) (.slice ta tn tc) (valsS l) L w.heap.size w2 ho m1' (fun e => by have := ((unhide HH).row.lt _ e).2; omega) rfl rfl (ones l (unhide HR).2) (by rw [valsS_len]; exact hL) (by rw [valsS_len]; exact hb) (by omega)
    rw [valsS_len] at CI
    have HM := hide (And.intro m2' m3')
    have HKK := hide hk
    clear hw2 m1 m2 m3 m1' m2' m3' ho c0 hk
    refine CI.mono ?_
    rintro e w3 ⟨v3, rfl, o3, gr3⟩
    have g3 := gr3.grown
    obtain ⟨a3, c3', rfl⟩ := slice_of o3
    have gl : g < w.heap.size := (Array.getElem?_eq_some_iff.1 (unhide HH).here).1
    have e2 : w2.heap[g]? = some (.cells #[v] 76 (0, 0)) := ((unhide HM).1.block g gl).trans (unhide HH).here
    have e3 : w3.heap[g]? = some (.cells #[v] 76 (0, 0)) := (g3.block g (by have := (unhide HM).2; omega) hg).trans e2
    have c3 : w3.cell? ⟨g, 0, none⟩ = some v := by rw [cell_of_row w3 g 0 _ _ (0, 0) e3]; rfl
    have HO := hide (And.intro o3 (And.intro g3 e3))
    have f3 := frozen_of e3
    clear CI o3 g3 e2 e3
    go_wp2_with fail
    go_ret
    obtain ⟨o3, g3, e3⟩ := unhide HO
    have hn : some g ≠ (Value.slice a3 (l.length + 1) c3').ownBlock := fun e => by
      rcases gr3.row g e.symm with h | h
      · exact hg h.symm
      · have := (unhide HM).2
        omega
    have hlen : (l.take L ++ (k, Value.slice ta tn tc) :: l.drop L).length = l.length + 1 := by
      rw [List.length_append, List.length_cons, List.length_take, List.length_drop]
      have := (unhide HL).1
      omega
    have hvals : valsS (l.take L ++ (k, Value.slice ta tn tc) :: l.drop L) = (valsS l).take L ++ (.string k, .slice ta tn tc) :: (valsS l).drop L := by simp [valsS, List.map_take, List.map_drop]
    refine ⟨.slice a3 (l.length + 1) c3', l.take L ++ (k, .slice ta tn tc) :: l.drop L, false, rfl, ⟨?_, ?_⟩, ins_rises (unhide HR).1 (unhide HL) (unhide HKK), fun p' => ins_mem p' (unhide HR).1 (unhide HL) (unhide HKK), by omega, by omega, hn, fun b hb => ?_, ?_⟩
    · have := heap_setCell_same w3 g 0 _ _ (.slice a3 (l.length + 1) c3') e3
      exact this
    · rw [valsS_len, hlen, hvals]
      refine ⟨o3.1, ?_⟩
      rcases o3.2 with h | ⟨b, cap, cur, hv, hb', hg', rest⟩
      · exact .inl h
      · refine .inr ⟨b, cap, cur, hv, hb', ?_, rest⟩
        rw [heap_setCell_other _ _ _ _ (fun e => hn (by rw [hv]; simp [Value.ownBlock, e]))]
        exact hg'
    · rcases gr3.row b hb with h | h
      · exact Or.inl h
      · exact Or.inr (by have := (unhide HM).2; omega)
    · have b2 := (unhide HM).1
      refine ⟨?_, ?_, ?_, ?_, fun j hj hne hnv => ?_⟩
      · exact g3.os.trans b2.os
      · exact g3.tape.trans b2.tape
      · exact g3.output.trans b2.output
      · have := g3.size
        have := b2.size
        simp
        omega
      · rw [heap_setCell_other _ _ _ _ hne, g3.block j (by have := b2.size; omega) hnv, b2.block j hj]
end Go.Proofs.Ytflopmhjgamcfaa

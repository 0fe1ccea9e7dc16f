/-
  Two tables of texts side by side, and what stands in them behind a row of Puts; no conditions.
-/
import Derived.Test.YtflopmhjgamcfaaTReadS
namespace Go.Proofs.Ytflopmhjgamcfaa
open Go.RowKit
set_option linter.unusedVariables false

theorem blk_ne {w : World} {a b : Nat} {ca cb : Array Value} {ta tb : TypeId} (ha : w.heap[a]? = some (.cells ca ta (0, 0))) (hb : w.heap[b]? = some (.cells cb tb (0, 0))) (ht : ta ≠ tb) : a ≠ b := fun e => by
  subst e
  rw [ha] at hb
  simp only [Option.some.injEq, Obj.cells.injEq] at hb
  exact ht hb.2.1

theorem row_blk {w : World} {base : Nat} {E : TypeId} {v : Value} {n : Nat} {xs : List Value} (h : w.ownsRow base E 2 v n xs) {b : Nat} (hb : v.ownBlock = some b) : ∃ cur, w.heap[b]? = some (.cells cur E (0, 0)) := by
  rcases h.2 with ⟨rfl, _⟩ | ⟨g, cap, cur, rfl, _, hg, _⟩
  · cases hb
  · cases hb
    exact ⟨cur, hg⟩

/-- a thing: a list of one number, in a block of its own -/
def Thing (w : World) (x : Value) (j : Nat) : Prop := ∃ c, x = .slice (some ⟨c, 0, none⟩) 1 1 ∧ w.heap[c]? = some (.cells #[.int .i64 (j : Int)] 3 (0, 0))

/-- a table whose keys have the things that I tells -/
structure One (w wr : World) (g : Nat) (v : Value) (l : List (ByteArray × Value)) (I : ByteArray → Nat → Prop) : Prop where
  tab : TabS wr w.heap.size g v l
  rises : RisesS l
  self : some g ≠ v.ownBlock
  th : ∀ p ∈ l, ∃ j, Thing wr p.2 j ∧ I p.1 j
  back : ∀ k j, I k j → ∃ p ∈ l, p.1 = k

section
variable {w wr u : World} {g g2 : Nat} {v v2 : Value} {l l2 : List (ByteArray × Value)} {I I2 : ByteArray → Nat → Prop}

theorem One.slices (h : One w wr g v l I) : ∀ p ∈ l, ∃ ta tn tc, p.2 = .slice ta tn tc := fun p hp => by
  obtain ⟨j, ⟨c, hc, _⟩, _⟩ := h.th p hp
  exact ⟨_, _, _, hc⟩

theorem One.ones (h : One w wr g v l I) : ∀ p ∈ l, p.2.oneCell' = true := fun p hp => by
  obtain ⟨ta, tn, tc, e⟩ := h.slices p hp
  rw [e]
  rfl

theorem One.keep (h : One w wr g v l I) (hw : ∀ b c t, wr.heap[b]? = some (.cells c t (0, 0)) → (t = 3 ∨ b = g ∨ v.ownBlock = some b) → u.heap[b]? = wr.heap[b]?) : One w u g v l I := by
  refine ⟨⟨(hw g _ _ h.tab.here (.inr (.inl rfl))).trans h.tab.here, h.tab.row.1, ?_⟩, h.rises, h.self, fun p hp => ?_, h.back⟩
  · rcases h.tab.row.2 with hn | ⟨b, cap, cur, rfl, hbs, hg', rest⟩
    · exact .inl hn
    · exact .inr ⟨b, cap, cur, rfl, hbs, (hw b _ _ hg' (.inr (.inr rfl))).trans hg', rest⟩
  · obtain ⟨j, ⟨c, hc, hc2⟩, hI⟩ := h.th p hp
    exact ⟨j, ⟨c, hc, (hw c _ _ hc2 (.inl rfl)).trans hc2⟩, hI⟩

theorem One.later (h : One w wr g v l I) (hb : Below wr.heap.size wr u) : One w u g v l I :=
  h.keep (fun b c t hh _ => hb.block b (Array.getElem?_eq_some_iff.1 hh).1)

theorem One.drawn (h : One w wr g v l I) (q : Nat) : One w (wr.drewN q) g v l I := h.later (below_drewN (Below.refl _ _) q)

theorem One.other (h : One w wr g v l I) (h2 : One w wr g2 v2 l2 I2) (hne : g ≠ g2) (hap : ∀ b, v.ownBlock = some b → v2.ownBlock ≠ some b) (ht : Turns wr u g2 v2) : One w u g v l I := by
  refine h.keep (fun b c t hh hd => ht.block b (Array.getElem?_eq_some_iff.1 hh).1 ?_ ?_)
  · rcases hd with rfl | rfl | hv
    · exact blk_ne hh h2.tab.here (by decide)
    · exact hne
    · obtain ⟨cur, hc⟩ := row_blk h.tab.row hv
      exact blk_ne hc h2.tab.here (by decide)
  · intro e
    obtain ⟨cur2, hc2⟩ := row_blk h2.tab.row e.symm
    rcases hd with rfl | rfl | hv
    · exact blk_ne hh hc2 (by decide) rfl
    · exact blk_ne h.tab.here hc2 (by decide) rfl
    · exact hap b hv e.symm

theorem One.put (h : One w wr g v l I) {v' : Value} {l' : List (ByteArray × Value)} {k : ByteArray} {x : Value} {j : Nat} (hx : Thing wr x j) (ht : TabS u w.heap.size g v' l') (hr : RisesS l') (hm : ∀ p, p ∈ l' ↔ p = (k, x) ∨ (p ∈ l ∧ p.1 ≠ k)) (hs : some g ≠ v'.ownBlock) (hT : Turns wr u g v)
    (hI : ∀ k' j', I2 k' j' ↔ (k' = k ∧ j' = j) ∨ (k' ≠ k ∧ I k' j')) : One w u g v' l' I2 := by
  have keep : ∀ y i, Thing wr y i → Thing u y i := fun y i hy => by
    obtain ⟨c, hc, hc2⟩ := hy
    refine ⟨c, hc, (hT.block c (Array.getElem?_eq_some_iff.1 hc2).1 (blk_ne hc2 h.tab.here (by decide)) (fun e => ?_)).trans hc2⟩
    obtain ⟨cur, hcur⟩ := row_blk h.tab.row e.symm
    exact blk_ne hc2 hcur (by decide) rfl
  refine ⟨ht, hr, hs, fun p hp => ?_, fun k' j' hk => ?_⟩
  · rcases (hm p).1 hp with rfl | ⟨hp, hne⟩
    · exact ⟨j, keep _ _ hx, (hI k j).2 (.inl ⟨rfl, rfl⟩)⟩
    · obtain ⟨i, hi, hI'⟩ := h.th p hp
      exact ⟨i, keep _ _ hi, (hI _ _).2 (.inr ⟨hne, hI'⟩)⟩
  · rcases (hI k' j').1 hk with ⟨rfl, rfl⟩ | ⟨hne, hI'⟩
    · exact ⟨(k', x), (hm _).2 (.inl rfl), rfl⟩
    · obtain ⟨p, hp, he⟩ := h.back k' j' hI'
      exact ⟨p, (hm p).2 (.inr ⟨hp, by rw [he]; exact hne⟩), he⟩
end

/-! ### Which thing stands under which key -/
def IT (ks : List ByteArray) (i : Nat) (k : ByteArray) (j : Nat) : Prop := j < i ∧ ks[j]? = some k ∧ ∀ j', j < j' → j' < i → ks[j']? ≠ some k
def IU (ks : List ByteArray) (i : Nat) (k : ByteArray) (j : Nat) : Prop := i ≤ j ∧ ks[j]? = some k ∧ ∀ j', j < j' → ks[j']? ≠ some k

theorem IT_next {ks : List ByteArray} {i : Nat} {k : ByteArray} (hk : ks[i]? = some k) (k' : ByteArray) (j' : Nat) : IT ks (i + 1) k' j' ↔ (k' = k ∧ j' = i) ∨ (k' ≠ k ∧ IT ks i k' j') := by
  unfold IT
  constructor
  · rintro ⟨h1, h2, h3⟩
    by_cases e : k' = k
    · refine .inl ⟨e, ?_⟩
      rcases Nat.lt_or_ge j' i with h | h
      · exact absurd (by rw [e]; exact hk) (h3 i h (by omega))
      · omega
    · refine .inr ⟨e, ?_, h2, fun x hx hx2 => h3 x hx (by omega)⟩
      rcases Nat.lt_or_ge j' i with h | h
      · exact h
      · have : j' = i := by omega
        subst this
        rw [hk] at h2
        exact absurd (Option.some.inj h2).symm e
  · rintro (⟨rfl, rfl⟩ | ⟨h0, h1, h2, h3⟩)
    · exact ⟨by omega, hk, fun x hx hx2 => by omega⟩
    · refine ⟨by omega, h2, fun x hx hx2 => ?_⟩
      rcases Nat.lt_or_ge x i with h | h
      · exact h3 x hx h
      · have : x = i := by omega
        subst this
        rw [hk]
        exact fun e => h0 (Option.some.inj e).symm

theorem IU_new {ks : List ByteArray} {i : Nat} {k : ByteArray} (hk : ks[i]? = some k) (hn : ∀ j, ¬ IU ks (i + 1) k j) (k' : ByteArray) (j' : Nat) : IU ks i k' j' ↔ (k' = k ∧ j' = i) ∨ (k' ≠ k ∧ IU ks (i + 1) k' j') := by
  constructor
  · rintro ⟨h1, h2, h3⟩
    rcases Nat.lt_or_ge i j' with h | h
    · have hu : IU ks (i + 1) k' j' := ⟨h, h2, h3⟩
      exact .inr ⟨fun e => hn j' (by rw [← e]; exact hu), hu⟩
    · have : j' = i := by omega
      subst this
      rw [hk] at h2
      exact .inl ⟨(Option.some.inj h2).symm, rfl⟩
  · rintro (⟨rfl, rfl⟩ | ⟨h0, h1, h2, h3⟩)
    · refine ⟨Nat.le_refl _, hk, ?_⟩
      intro x
      induction hx : ks.length - x using Nat.strongRecOn generalizing x with
      | ind m ih =>
        intro hx1 hx2
        have hlt := (List.getElem?_eq_some_iff.1 hx2).1
        exact hn x ⟨hx1, hx2, fun y hy hy2 => by
          have hly := (List.getElem?_eq_some_iff.1 hy2).1
          exact ih (ks.length - y) (by omega) y rfl (by omega) hy2⟩
    · exact ⟨by omega, h2, h3⟩

theorem IU_old {ks : List ByteArray} {i : Nat} {k : ByteArray} (hk : ks[i]? = some k) {j : Nat} (hj : IU ks (i + 1) k j) (k' : ByteArray) (j' : Nat) : IU ks i k' j' ↔ IU ks (i + 1) k' j' := by
  constructor
  · rintro ⟨h1, h2, h3⟩
    refine ⟨?_, h2, h3⟩
    rcases Nat.lt_or_ge i j' with h | h
    · exact h
    · have : j' = i := by omega
      subst this
      rw [hk] at h2
      have := Option.some.inj h2
      subst this
      exact absurd hj.2.1 (h3 j (by have := hj.1; omega))
  · rintro ⟨h1, h2, h3⟩
    exact ⟨by omega, h2, h3⟩

theorem IT_IU (ks : List ByteArray) (k : ByteArray) (j : Nat) : IT ks ks.length k j ↔ IU ks 0 k j := by
  constructor
  · rintro ⟨h1, h2, h3⟩
    exact ⟨Nat.zero_le _, h2, fun x hx hx2 => h3 x hx (List.getElem?_eq_some_iff.1 hx2).1 hx2⟩
  · rintro ⟨h1, h2, h3⟩
    exact ⟨(List.getElem?_eq_some_iff.1 h2).1, h2, fun x hx _ => h3 x hx⟩

theorem IU_one {ks : List ByteArray} {k : ByteArray} {i j j' : Nat} (h : IU ks i k j) (h' : IU ks i k j') : j = j' := by
  rcases Nat.lt_trichotomy j j' with hl | hl | hl
  · exact absurd h'.2.1 (h.2.2 j' hl)
  · exact hl
  · exact absurd h.2.1 (h'.2.2 j hl)

theorem keys_eq : ∀ (a b : List ByteArray), a.Pairwise (fun x y => bl x y = true) → b.Pairwise (fun x y => bl x y = true) → (∀ k, k ∈ a ↔ k ∈ b) → a = b
  | [], [], _, _, _ => rfl
  | [], y :: b, _, _, h => by have := (h y).2 List.mem_cons_self; cases this
  | x :: a, [], _, _, h => by have := (h x).1 List.mem_cons_self; cases this
  | x :: a, y :: b, ha, hb, h => by
    rw [List.pairwise_cons] at ha hb
    have hxy : x = y := by
      rcases List.mem_cons.1 ((h x).1 List.mem_cons_self) with e | e
      · exact e
      · rcases List.mem_cons.1 ((h y).2 List.mem_cons_self) with e' | e'
        · exact e'.symm
        · have h1 := ha.1 y e'
          have h2 := hb.1 x e
          rw [bl_asym h1] at h2
          cases h2
    subst hxy
    rw [keys_eq a b ha.2 hb.2 (fun k => ?_)]
    constructor
    · intro hk
      rcases List.mem_cons.1 ((h k).1 (List.mem_cons_of_mem _ hk)) with e | e
      · subst e
        have := ha.1 k hk
        rw [bl_irr] at this
        cases this
      · exact e
    · intro hk
      rcases List.mem_cons.1 ((h k).2 (List.mem_cons_of_mem _ hk)) with e | e
      · subst e
        have := hb.1 k hk
        rw [bl_irr] at this
        cases this
      · exact e

/-- the two tables have the same keys, and the same things under them -/
theorem one_same {w wr : World} {g g2 : Nat} {v v2 : Value} {l l2 : List (ByteArray × Value)} {ks : List ByteArray} (h : One w wr g v l (IT ks ks.length)) (h2 : One w wr g2 v2 l2 (IU ks 0)) :
    l.map Prod.fst = l2.map Prod.fst ∧ ∀ (i : Nat) (p : ByteArray × Value), l[i]? = some p → ∃ x2 j, l2[i]? = some (p.1, x2) ∧ Thing wr p.2 j ∧ Thing wr x2 j := by
  have hk : l.map Prod.fst = l2.map Prod.fst := by
    refine keys_eq _ _ ?_ ?_ (fun k => ?_)
    · rw [List.pairwise_map]; exact rises_pair.1 h.rises
    · rw [List.pairwise_map]; exact rises_pair.1 h2.rises
    · rw [List.mem_map, List.mem_map]
      constructor
      · rintro ⟨p, hp, rfl⟩
        obtain ⟨j, _, hI⟩ := h.th p hp
        exact h2.back _ j ((IT_IU ks _ _).1 hI)
      · rintro ⟨p, hp, rfl⟩
        obtain ⟨j, _, hI⟩ := h2.th p hp
        exact h.back _ j ((IT_IU ks _ _).2 hI)
  refine ⟨hk, fun i p hp => ?_⟩
  have h3 : (l2.map Prod.fst)[i]? = some p.1 := by rw [← hk, List.getElem?_map, hp]; rfl
  rw [List.getElem?_map] at h3
  obtain ⟨q, hq, he⟩ := Option.map_eq_some_iff.1 h3
  obtain ⟨j, hj, hI⟩ := h.th p (List.mem_of_getElem? hp)
  obtain ⟨j2, hj2, hI2⟩ := h2.th q (List.mem_of_getElem? hq)
  rw [he] at hI2
  have := IU_one ((IT_IU ks _ _).1 hI) hI2
  subst this
  exact ⟨q.2, j, by rw [← he]; exact hq, hj, hj2⟩
end Go.Proofs.Ytflopmhjgamcfaa

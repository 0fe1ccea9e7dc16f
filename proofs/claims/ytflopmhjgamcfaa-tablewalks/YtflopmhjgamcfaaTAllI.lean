/-
  The tables of a script in memory, each with what it must have: what a step leaves as it was; no conditions.
-/
import Derived.Test.YtflopmhjgamcfaaTCopyI
import Derived.Test.YtflopmhjgamcfaaTRefI
set_option linter.unusedSimpArgs false
namespace Go.Proofs.Ytflopmhjgamcfaa
open Go.RowKit
set_option linter.unusedVariables false

theorem blk_ne {w : World} {a b : Nat} {ca cb : Array Value} {ta tb : TypeId} (ha : w.heap[a]? = some (.cells ca ta (0, 0))) (hb : w.heap[b]? = some (.cells cb tb (0, 0))) (ht : ta ≠ tb) : a ≠ b := fun e => by
  subst e
  rw [ha] at hb
  simp only [Option.some.injEq, Obj.cells.injEq] at hb
  exact ht hb.2.1

theorem row_blk {w : World} {base : Nat} {E : TypeId} {v : Value} {n : Nat} {xs : List Value} (h : w.ownsRow base E 2 v n xs) {b : Nat} (hb : v.ownBlock = some b) : ∃ cur, w.heap[b]? = some (.cells cur E (0, 0)) := by
  rcases h.2 with ⟨rfl, _⟩ | ⟨g, cap, cur, rfl, _, hg, _⟩
  · cases hb
  · cases hb
    exact ⟨cur, hg⟩

theorem row_keep {w u : World} {base : Nat} {E : TypeId} {v : Value} {n : Nat} {xs : List Value} (h : w.ownsRow base E 2 v n xs) (hk : ∀ b, v.ownBlock = some b → u.heap[b]? = w.heap[b]?) : u.ownsRow base E 2 v n xs := by
  refine ⟨h.1, ?_⟩
  rcases h.2 with hn | ⟨g, cap, cur, rfl, hb, hg, rest⟩
  · exact .inl hn
  · exact .inr ⟨g, cap, cur, rfl, hb, (hk g rfl).trans hg, rest⟩

theorem ref_put_any {w : World} {r : Value} {l : Prs} (h : RefRow w r l) (k x : Int) (hb : (l.length + 1) * 16 ≤ 140737488355328) :
    Calls Try.prog 29 #[r, .int .i64 k, .int .i64 x] w fun e w' => ∃ r', e = .returned (.tuple #[r', .bool (has l k)]) ∧ RefRow w' r' (putL l k x) ∧ Below w.heap.size w w' := by
  rcases h.2 with ⟨rfl, hn⟩ | ⟨b, cap, cur, rfl, _⟩
  · have : l = [] := List.eq_nil_of_length_eq_zero hn
    subst this
    exact ref_put_nil k x
  · exact ref_put h k x hb

/-- a table of a script: where it lies, its row, what it has; what it must have, as a row and as a list -/
structure Ent where
  g : Nat
  v : Value
  l : Prs
  r : Value
  m : Prs

/-- its cells in the list of all -/
def Ent.vals (e : Ent) : Value × Value := (.pointer (some ⟨e.g, 0, none⟩), e.r)

structure EntOk (w wr : World) (N : Nat) (e : Ent) : Prop where
  tab : TabI wr w.heap.size e.g e.v e.l
  rises : RisesI e.l
  self : some e.g ≠ e.v.ownBlock
  ref : RefRow wr e.r e.m
  len : e.l.length ≤ N ∧ e.m.length ≤ N
  low : w.heap.size ≤ e.g

structure AllT (I : Nat → Obj → Prop) (w wr : World) (av : Value) (es : List Ent) (N : Nat) : Prop where
  row : wr.ownsRow w.heap.size 29 2 av es.length (cells2 (es.map Ent.vals))
  ok : ∀ (i : Nat) (e : Ent), es[i]? = some e → EntOk w wr N e
  apart : ∀ (i j : Nat) (a b : Ent), i ≠ j → es[i]? = some a → es[j]? = some b → a.g ≠ b.g ∧ ∀ c, a.v.ownBlock = some c → b.v.ownBlock ≠ some c
  below : Below w.heap.size w wr
  /-- the blocks that are left alone: they are none of the tables' own -/
  frozen : ∀ (b : Nat) (o : Obj), I b o → wr.heap[b]? = some o ∧ av.ownBlock ≠ some b ∧ ∀ e ∈ es, e.g ≠ b ∧ e.v.ownBlock ≠ some b

section
variable {I : Nat → Obj → Prop} {w wr u : World} {av : Value} {es : List Ent} {N N' : Nat}

/-- an entry stands where its blocks stand -/
theorem EntOk.keep {e : Ent} (h : EntOk w wr N e) (hN : N ≤ N') (hk : ∀ b c t, wr.heap[b]? = some (.cells c t (0, 0)) → (b = e.g ∨ e.v.ownBlock = some b ∨ t = 39) → u.heap[b]? = wr.heap[b]?) : EntOk w u N' e := by
  refine ⟨⟨(hk e.g _ _ h.tab.here (.inl rfl)).trans h.tab.here, row_keep h.tab.row (fun b hb => ?_)⟩, h.rises, h.self, row_keep h.ref (fun b hb => ?_), ⟨by have := h.len.1; omega, by have := h.len.2; omega⟩, h.low⟩
  · obtain ⟨cur, hc⟩ := row_blk h.tab.row hb
    exact hk b _ _ hc (.inr (.inl hb))
  · obtain ⟨cur, hc⟩ := row_blk h.ref hb
    exact hk b _ _ hc (.inr (.inr rfl))

theorem AllT.later (h : AllT I w wr av es N) (hb : Below wr.heap.size wr u) : AllT I w u av es N :=
  ⟨own_below h.row hb, fun i e he => (h.ok i e he).keep (Nat.le_refl _) (fun b c t hc _ => hb.block b (Array.getElem?_eq_some_iff.1 hc).1), h.apart, h.below.trans (hb.mono h.below.size), fun b o hb' => by
    obtain ⟨f1, f2, f3⟩ := h.frozen b o hb'
    exact ⟨(hb.block b (Array.getElem?_eq_some_iff.1 f1).1).trans f1, f2, f3⟩⟩

theorem AllT.more (h : AllT I w wr av es N) (hN : N ≤ N') : AllT I w wr av es N' :=
  ⟨h.row, fun i e he => (h.ok i e he).keep hN (fun _ _ _ _ _ => rfl), h.apart, h.below, h.frozen⟩

theorem set_at {es : List Ent} {i j : Nat} {e a : Ent} (h : (es.set i e)[j]? = some a) : (j = i ∧ a = e) ∨ (j ≠ i ∧ es[j]? = some a) := by
  rw [List.getElem?_set] at h
  split at h
  · rename_i hij
    split at h
    · cases h; exact .inl ⟨hij.symm, rfl⟩
    · cases h
  · rename_i hij
    exact .inr ⟨fun e => hij e.symm, h⟩

/-- a table has turned -/
theorem AllT.turn (h : AllT I w wr av es N) {i : Nat} {e : Ent} (he : es[i]? = some e) {v' : Value} {l' : Prs} (ht : Turns wr u e.g e.v) (hT : TabI u w.heap.size e.g v' l') (hr : RisesI l') (hs : some e.g ≠ v'.ownBlock) (hn : ∀ b, v'.ownBlock = some b → e.v.ownBlock = some b ∨ wr.heap.size ≤ b) (hl : l'.length ≤ N) :
    AllT I w u av (es.set i { e with v := v', l := l' }) N := by
  have ho := h.ok i e he
  have keep : ∀ (b : Nat) (c : Array Value) (t : TypeId), wr.heap[b]? = some (.cells c t (0, 0)) → b ≠ e.g → e.v.ownBlock ≠ some b → u.heap[b]? = wr.heap[b]? := fun b c t hc h1 h2 => ht.block b (Array.getElem?_eq_some_iff.1 hc).1 h1 (fun e' => h2 e'.symm)
  have ty : ∀ (b : Nat) (c : Array Value) (t : TypeId), wr.heap[b]? = some (.cells c t (0, 0)) → t ≠ 73 → t ≠ 71 → u.heap[b]? = wr.heap[b]? := fun b c t hc h1 h2 => keep b c t hc (blk_ne hc ho.tab.here h1) (fun e' => by
    obtain ⟨cur, hcur⟩ := row_blk ho.tab.row e'
    exact blk_ne hc hcur h2 rfl)
  have hmap : (es.set i { e with v := v', l := l' }).map Ent.vals = es.map Ent.vals := by
    rw [List.map_set]
    apply List.ext_getElem?
    intro j
    rw [List.getElem?_set]
    split
    · rename_i hij
      subst hij
      have hlt := (List.getElem?_eq_some_iff.1 he).1
      rw [List.getElem?_map, he]
      simp [hlt, Ent.vals]
    · rfl
  refine ⟨?_, fun j a ha => ?_, fun j k a b hjk ha hb => ?_, h.below.trans (ht.below (Nat.le_trans h.below.size (Nat.le_refl _)) ho.low (fun b hb => (ho.tab.row.lt b hb).1)), fun b o hb => ?_⟩
  · rw [List.length_set, hmap]
    refine row_keep h.row (fun b hb => ?_)
    obtain ⟨cur, hc⟩ := row_blk h.row hb
    exact ty b _ _ hc (by decide) (by decide)
  · rcases set_at ha with ⟨rfl, rfl⟩ | ⟨hne, ha⟩
    · exact ⟨hT, hr, hs, row_keep ho.ref (fun b hb => by
        obtain ⟨cur, hc⟩ := row_blk ho.ref hb
        exact ty b _ _ hc (by decide) (by decide)), ⟨hl, ho.len.2⟩, ho.low⟩
    · have hap := h.apart j i a e hne ha he
      have hoa := h.ok j a ha
      refine hoa.keep (Nat.le_refl _) (fun b c t hc hd => ?_)
      rcases hd with rfl | hv | rfl
      · exact keep _ c t hc hap.1 (fun e' => by
          obtain ⟨cur, hcur⟩ := row_blk ho.tab.row e'
          exact blk_ne hoa.tab.here hcur (by decide) rfl)
      · obtain ⟨cur, hcur⟩ := row_blk hoa.tab.row hv
        exact keep b c t hc (blk_ne hcur ho.tab.here (by decide)) (hap.2 b hv)
      · exact ty b c _ hc (by decide) (by decide)
  · rcases set_at ha with ⟨rfl, rfl⟩ | ⟨hj, ha'⟩
    · rcases set_at hb with ⟨rfl, rfl⟩ | ⟨hk, hb⟩
      · exact absurd rfl hjk
      · have hap := h.apart j k e b hjk he hb
        refine ⟨hap.1, fun c hc e' => ?_⟩
        rcases hn c hc with h1 | h1
        · exact hap.2 c h1 e'
        · have := ((h.ok k b hb).tab.row.lt c e').2
          omega
    · rcases set_at hb with ⟨rfl, rfl⟩ | ⟨hk, hb⟩
      · have hap := h.apart j k a e hjk ha' he
        refine ⟨hap.1, fun c hc e' => ?_⟩
        rcases hn c e' with h1 | h1
        · exact hap.2 c hc h1
        · have := ((h.ok j a ha').tab.row.lt c hc).2
          omega
      · exact h.apart j k a b hjk ha' hb
  · obtain ⟨f1, f2, f3⟩ := h.frozen b o hb
    have hlt := (Array.getElem?_eq_some_iff.1 f1).1
    have fe := f3 e (List.mem_of_getElem? he)
    refine ⟨(ht.block b hlt fe.1.symm (fun e' => fe.2 e'.symm)).trans f1, f2, fun a ha => ?_⟩
    obtain ⟨j, hj⟩ := List.mem_iff_getElem?.1 ha
    rcases set_at hj with ⟨_, rfl⟩ | ⟨_, hj⟩
    · refine ⟨fe.1, fun e' => ?_⟩
      rcases hn b e' with h1 | h1
      · exact fe.2 h1
      · omega
    · exact f3 a (List.mem_of_getElem? hj)

/-- what a table must have has turned, and is laid into the list of all -/
theorem AllT.lay (h : AllT I w wr av es N) {A cap : Nat} (hav : av = .slice (some ⟨A, 0, none⟩) es.length cap) {i : Nat} {e : Ent} (he : es[i]? = some e) {r' : Value} {m' : Prs} (hr : RefRow wr r' m') (hm : m'.length ≤ N) :
    AllT I w (wr.setCell ⟨A, i * 2 + 1, none⟩ r') av (es.set i { e with r := r', m := m' }) N := by
  subst hav
  have ho := h.ok i e he
  obtain ⟨curA, hA⟩ := row_blk h.row rfl
  have keep : ∀ (b : Nat) (c : Array Value) (t : TypeId), wr.heap[b]? = some (.cells c t (0, 0)) → t ≠ 29 → (wr.setCell ⟨A, i * 2 + 1, none⟩ r').heap[b]? = wr.heap[b]? := fun b c t hc h1 => heap_setCell_other _ _ _ _ (blk_ne hc hA h1)
  have hmap : (es.set i { e with r := r', m := m' }).map Ent.vals = (es.map Ent.vals).set i (.pointer (some ⟨e.g, 0, none⟩), r') := by
    rw [List.map_set]
    rfl
  have hAl : w.heap.size ≤ A := (h.row.lt A rfl).1
  refine ⟨?_, fun j a ha => ?_, fun j k a b hjk ha hb => ?_, h.below.setCell (p := ⟨A, i * 2 + 1, none⟩) hAl _, fun b o hb => ?_⟩
  · rw [List.length_set, hmap]
    have hcell := cells2_set (es.map Ent.vals) i e.vals r' (by rw [List.getElem?_map, he]; rfl)
    have hv1 : e.vals.1 = .pointer (some ⟨e.g, 0, none⟩) := rfl
    rw [hv1] at hcell
    rcases h.row.2 with ⟨e', _⟩ | ⟨g, cap', cur, e', hb, hg, hc, hmx, hsz, htk⟩
    · cases e'
    · cases e'
      refine ⟨by rw [hcell, List.length_set, cells2_len, List.length_map], .inr ⟨A, cap, _, rfl, hb, heap_setCell_same wr A (i * 2 + 1) cur _ r' hg, hc, hmx, by simpa using hsz, ?_⟩⟩
      rw [hcell, ← htk]
      simp [List.take_set]
  · rcases set_at ha with ⟨rfl, rfl⟩ | ⟨hne, ha⟩
    · have h1 := ho.keep (N' := N) (Nat.le_refl _) (u := wr.setCell ⟨A, j * 2 + 1, none⟩ r') (fun b c t hc hd => by
        rcases hd with rfl | hv | rfl
        · exact heap_setCell_other _ _ _ _ (blk_ne ho.tab.here hA (by decide))
        · obtain ⟨cur, hcur⟩ := row_blk ho.tab.row hv
          exact heap_setCell_other _ _ _ _ (blk_ne hcur hA (by decide))
        · exact keep b c _ hc (by decide))
      exact ⟨h1.tab, h1.rises, h1.self, row_keep hr (fun b hb => by
        obtain ⟨cur, hc⟩ := row_blk hr hb
        exact keep b _ _ hc (by decide)), ⟨h1.len.1, hm⟩, h1.low⟩
    · have hoa := h.ok j a ha
      refine hoa.keep (Nat.le_refl _) (fun b c t hc hd => ?_)
      rcases hd with rfl | hv | rfl
      · exact heap_setCell_other _ _ _ _ (blk_ne hoa.tab.here hA (by decide))
      · obtain ⟨cur, hcur⟩ := row_blk hoa.tab.row hv
        exact heap_setCell_other _ _ _ _ (blk_ne hcur hA (by decide))
      · exact keep b c _ hc (by decide)
  · rcases set_at ha with ⟨rfl, rfl⟩ | ⟨hj, ha'⟩
    · rcases set_at hb with ⟨rfl, rfl⟩ | ⟨hk, hb⟩
      · exact absurd rfl hjk
      · exact h.apart j k e b hjk he hb
    · rcases set_at hb with ⟨rfl, rfl⟩ | ⟨hk, hb⟩
      · exact h.apart j k a e hjk ha' he
      · exact h.apart j k a b hjk ha' hb
  · obtain ⟨f1, f2, f3⟩ := h.frozen b o hb
    refine ⟨(heap_setCell_other _ _ _ _ (fun e' => f2 (by rw [e']; rfl))).trans f1, f2, fun a ha => ?_⟩
    obtain ⟨j, hj⟩ := List.mem_iff_getElem?.1 ha
    rcases set_at hj with ⟨_, rfl⟩ | ⟨_, hj⟩
    · exact f3 e (List.mem_of_getElem? he)
    · exact f3 a (List.mem_of_getElem? hj)

/-- one more table -/
theorem AllT.push (h : AllT I w wr av es N) {e : Ent} (ho : EntOk w wr N e) (hap : ∀ (j : Nat) (a : Ent), es[j]? = some a → a.g ≠ e.g ∧ ∀ c, a.v.ownBlock = some c → e.v.ownBlock ≠ some c) {av' : Value} (hg : wr.grownBy u av.ownBlock) (hfz : ∀ b o, I b o → e.g ≠ b ∧ e.v.ownBlock ≠ some b) (hav : ∀ b, av'.ownBlock = some b → av.ownBlock = some b ∨ wr.heap.size ≤ b)
    (hrow : u.ownsRow w.heap.size 29 2 av' (es.length + 1) (cells2 (es.map Ent.vals) ++ [e.vals.1, e.vals.2])) : AllT I w u av' (es ++ [e]) N := by
  have keep : ∀ (b : Nat) (c : Array Value) (t : TypeId), wr.heap[b]? = some (.cells c t (0, 0)) → t ≠ 29 → u.heap[b]? = wr.heap[b]? := fun b c t hc h1 => hg.block b (Array.getElem?_eq_some_iff.1 hc).1 (fun e' => by
    obtain ⟨cur, hcur⟩ := row_blk h.row e'.symm
    exact blk_ne hc hcur h1 rfl)
  have kE : ∀ a, EntOk w wr N a → EntOk w u N a := fun a ha => ha.keep (Nat.le_refl _) (fun b c t hc hd => by
    rcases hd with rfl | hv | rfl
    · exact keep _ _ _ ha.tab.here (by decide)
    · obtain ⟨cur, hcur⟩ := row_blk ha.tab.row hv
      exact keep b _ _ hcur (by decide)
    · exact keep b c _ hc (by decide))
  have at' : ∀ (j : Nat) (a : Ent), (es ++ [e])[j]? = some a → (es[j]? = some a ∧ j < es.length) ∨ (j = es.length ∧ a = e) := fun j a ha => by
    by_cases hj : j < es.length
    · rw [List.getElem?_append_left hj] at ha
      exact .inl ⟨ha, hj⟩
    · rw [List.getElem?_append_right (by omega)] at ha
      have h1 := (List.getElem?_eq_some_iff.1 ha).1
      simp at h1
      have h2 : j - es.length = 0 := by omega
      rw [h2] at ha
      simp at ha
      exact .inr ⟨by omega, ha.symm⟩
  refine ⟨?_, fun j a ha => ?_, fun j k a b hjk ha hb => ?_, h.below.grown hg h.below.size (fun c hc => (h.row.lt c hc).1), fun b o hb => ?_⟩
  · rw [List.length_append, List.map_append, cells2_append]
    exact hrow
  · rcases at' j a ha with ⟨ha', _⟩ | ⟨_, rfl⟩
    · exact kE a (h.ok j a ha')
    · exact kE a ho
  · rcases at' j a ha with ⟨ha', _⟩ | ⟨hj, rfl⟩
    · rcases at' k b hb with ⟨hb', _⟩ | ⟨hk, rfl⟩
      · exact h.apart j k a b hjk ha' hb'
      · exact hap j a ha'
    · rcases at' k b hb with ⟨hb', _⟩ | ⟨hk, rfl⟩
      · have := hap k b hb'
        exact ⟨this.1.symm, fun c hc e' => this.2 c e' hc⟩
      · omega
  · obtain ⟨f1, f2, f3⟩ := h.frozen b o hb
    have hlt := (Array.getElem?_eq_some_iff.1 f1).1
    refine ⟨(hg.block b hlt (fun e' => f2 e'.symm)).trans f1, fun e' => ?_, fun a ha => ?_⟩
    · rcases hav b e' with h1 | h1
      · exact f2 h1
      · omega
    · rcases List.mem_append.1 ha with ha | ha
      · exact f3 a ha
      · rw [List.mem_singleton.1 ha]
        exact hfz b o hb

/-- blocks that none of the tables owns are left alone from here on -/
theorem AllT.freeze {J : Nat → Obj → Prop} (h : AllT I w wr av es N) (hf : ∀ (b : Nat) (o : Obj), J b o → wr.heap[b]? = some o ∧ av.ownBlock ≠ some b ∧ ∀ e ∈ es, e.g ≠ b ∧ e.v.ownBlock ≠ some b) : AllT J w wr av es N :=
  ⟨h.row, h.ok, h.apart, h.below, hf⟩
end
end Go.Proofs.Ytflopmhjgamcfaa

/-
  A row of entries that is being made; entries that came out lie as entries do; no conditions.
-/
import Derived.Test.YtjhnbopejnpbeaaA38
import Derived.Test.YtjhnbopejnpbeaaA42
set_option linter.unusedVariables false
set_option linter.unusedSimpArgs false
namespace Go.Proofs.Ytjhnbopejnpbeaa
open Go.RowKit Go.Shelf
set_option linter.unusedVariables false
set_option linter.unusedSimpArgs false

def enOf (p : Eo) : En := (p.1, p.2.2)

/-- a row of one's own, of entries whose values are elder -/
structure EnP (w : World) (lo B : Nat) (sv : Value) (cs : List Eo) : Prop where
  row : w.ownsRow lo 48 6 sv cs.length (cellsN cs)
  el : ∀ p ∈ cs, IsV w B p.2.2 (.agg (th5 p.2.1).toArray)
  low : B ≤ lo
  top : B ≤ w.heap.size

theorem EnP.nil (w : World) (lo B : Nat) (h : B ≤ lo) (h' : B ≤ w.heap.size) : EnP w lo B (.slice none 0 0) [] := ⟨World.ownsRow_nil _ _ _ _, (fun p hp => by cases hp), h, h'⟩

theorem EnP.to {w w' : World} {lo B : Nat} {sv : Value} {cs : List Eo} (h : EnP w lo B sv cs) (hs : w.heap.size ≤ w'.heap.size) (h1 : ∀ b, sv.ownBlock = some b → w'.heap[b]? = w.heap[b]?) (h2 : ∀ b, b < B → w'.heap[b]? = w.heap[b]?) : EnP w' lo B sv cs :=
  ⟨row_to h.row h1, fun p hp => (h.el p hp).to h2 (fun b hb => hb), h.low, Nat.le_trans h.top hs⟩

theorem EnP.push {w w5 : World} {lo B g cap n : Nat} {sv : Value} {cs : List Eo} {k : ByteArray} {c : Th5} {y : Vl} (h : EnP w lo B sv cs) (hn : cs.length = n) (hv : IsV w B y (.agg (th5 c).toArray)) (ho : w5.ownsRow lo 48 6 (.slice (some ⟨g, 0, none⟩) (n + 1) cap) (n + 1) (cellsN cs ++ (.string k :: th5 c))) (hg : w.grownBy w5 sv.ownBlock) : EnP w5 lo B (.slice (some ⟨g, 0, none⟩) (n + 1) cap) (cs ++ [(k, (c, y))]) := by
  have hk : ∀ b, b < B → w5.heap[b]? = w.heap[b]? := fun b hb => hg.block b (Nat.lt_of_lt_of_le hb h.top) (fun e => by have := (h.row.lt b e.symm).1; have := h.low; omega)
  refine ⟨?_, fun p hp => ?_, h.low, Nat.le_trans h.top hg.size⟩
  · have e : cellsN (cs ++ [(k, (c, y))]) = cellsN cs ++ (.string k :: th5 c) := by simp [cellsN]
    rw [List.length_append, hn, e]
    exact ho
  · rcases List.mem_append.1 hp with hp | hp
    · exact (h.el p hp).to hk (fun b hb => hb)
    · rw [List.mem_singleton] at hp
      subst hp
      exact hv.to hk (fun b hb => hb)

/-- .. lies as entries do -/
theorem EnP.isE {w : World} {lo B : Nat} {sv : Value} {cs : List Eo} (h : EnP w lo B sv cs) (hb : ∀ p ∈ cs, p.1.size ≤ 140737488351232) (hl : cs.length ≤ 140737488351232) : ∃ al cl, sv = .slice al cs.length cl ∧ IsE w (fun b => b < w.heap.size) (cs.map enOf) al cl := by
  have hcell : ∀ (i : Nat) (p : Eo), cs[i]? = some p → ∀ j v, (Value.string p.1 :: th5 p.2.1)[j]? = some v → (cellsN cs)[i * 6 + j]? = some v := by
    intro i p hp j v hv
    have hj : j < 6 := by
      have := (List.getElem?_eq_some_iff.1 hv).1
      obtain ⟨t0, t1, t2, t3, t4, t5, t6, t7, t8⟩ := p.2.1
      simpa [th5] using this
    clear h hb hl
    induction cs generalizing i with
    | nil => simp at hp
    | cons c r ih =>
      have hlen : (Value.string c.1 :: th5 c.2.1).length = 6 := by
        obtain ⟨t0, t1, t2, t3, t4, t5, t6, t7, t8⟩ := c.2.1
        rfl
      have hcc : cellsN (c :: r) = (Value.string c.1 :: th5 c.2.1) ++ cellsN r := by simp [cellsN]
      rw [hcc]
      cases i with
      | zero =>
        simp at hp
        subst hp
        rw [Nat.zero_mul, Nat.zero_add, List.getElem?_append_left (by omega)]
        exact hv
      | succ i =>
        rw [List.getElem?_append_right (by rw [hlen]; omega), hlen, show (i + 1) * 6 + j - 6 = i * 6 + j by omega]
        exact ih i (by simpa using hp)
  have hget : ∀ (i : Nat) (e : En), (cs.map enOf)[i]? = some e → ∃ p, cs[i]? = some p ∧ e = enOf p := by
    intro i e he
    rw [List.getElem?_map, Option.map_eq_some_iff] at he
    obtain ⟨p, h1, h2⟩ := he
    exact ⟨p, h1, h2.symm⟩
  have hval : ∀ (i : Nat) (p : Eo), cs[i]? = some p → IsP w (fun b => b < w.heap.size) p.2.2 (.agg (th5 p.2.1).toArray) := fun i p hp => (h.el p (List.mem_of_getElem? hp)).to (fun _ _ => rfl) (fun b hb => Nat.lt_of_lt_of_le hb h.top)
  have hV : ∀ (i : Nat) (p : Eo), cs[i]? = some p → ((cs[i]?.map (fun p => th5 p.2.1)).getD []) = th5 p.2.1 := fun i p hp => by rw [hp]; rfl
  have h5 : ∀ t : Th5, (th5 t).length = 5 := fun t => by obtain ⟨t0, t1, t2, t3, t4, t5, t6, t7, t8⟩ := t; rfl
  rcases h.row.2 with ⟨e, e2⟩ | ⟨g, cap, cur, e, hlo, hg, hcap, hmax, hsz, hcur⟩
  · have : cs = [] := List.eq_nil_of_length_eq_zero e2
    subst this
    exact ⟨none, 0, e, fun _ => [], (fun _ => ⟨rfl, rfl⟩), Nat.le_refl _, by simp, (fun a ha => by cases ha), (fun e he => by cases he), fun i e he => by simp at he⟩
  · refine ⟨some ⟨g, 0, none⟩, cap, e, fun i => (cs[i]?.map (fun p => th5 p.2.1)).getD [], (fun e => by cases e), by rw [List.length_map]; exact hcap, by rw [List.length_map]; omega, ?_, ?_, ?_⟩
    · intro a ha i x hx
      cases ha
      obtain ⟨p, hp, rfl⟩ := hget i x hx
      refine ⟨(Array.getElem?_eq_some_iff.1 hg).1, fun j v hv => ?_⟩
      rw [hV i p hp] at hv
      have := h.row.cells (g := g) (by rw [e]; rfl) _ _ (hcell i p hp j v hv)
      rw [add_offC] at this
      have hadd : ((⟨g, 0, none⟩ : Addr).add (i * 6)).add j = ⟨g, 0 + (i * 6 + j), none⟩ := by rw [add_offC, add_offC, Nat.zero_add, Nat.zero_add]
      rw [hadd]
      exact this
    · intro x hx
      obtain ⟨p, hp, rfl⟩ := List.mem_map.1 hx
      exact hb p hp
    · intro i x hx
      obtain ⟨p, hp, rfl⟩ := hget i x hx
      rw [hV i p hp]
      exact ⟨h5 _, hval i p hp⟩

/-- entries that came out lie as entries do -/
theorem EnN.isE {w : World} {lo : Nat} {sv : Value} {cs : List Eo} (h : EnN w lo sv cs) (hb : ∀ p ∈ cs, p.1.size ≤ 140737488351232) (hl : cs.length ≤ 1000) : ∃ al cl, sv = .slice al cs.length cl ∧ IsE w (fun b => b < w.heap.size) (cs.map enOf) al cl := by
  have hcell : ∀ (i : Nat) (p : Eo), cs[i]? = some p → ∀ j v, (Value.string p.1 :: th5 p.2.1)[j]? = some v → (cellsN cs)[i * 6 + j]? = some v := by
    intro i p hp j v hv
    have hj : j < 6 := by
      have := (List.getElem?_eq_some_iff.1 hv).1
      obtain ⟨t0, t1, t2, t3, t4, t5, t6, t7, t8⟩ := p.2.1
      simpa [th5] using this
    clear h hb hl
    induction cs generalizing i with
    | nil => simp at hp
    | cons c r ih =>
      have hlen : (Value.string c.1 :: th5 c.2.1).length = 6 := by
        obtain ⟨t0, t1, t2, t3, t4, t5, t6, t7, t8⟩ := c.2.1
        rfl
      have hcc : cellsN (c :: r) = (Value.string c.1 :: th5 c.2.1) ++ cellsN r := by simp [cellsN]
      rw [hcc]
      cases i with
      | zero =>
        simp at hp
        subst hp
        rw [Nat.zero_mul, Nat.zero_add, List.getElem?_append_left (by omega)]
        exact hv
      | succ i =>
        rw [List.getElem?_append_right (by rw [hlen]; omega), hlen, show (i + 1) * 6 + j - 6 = i * 6 + j by omega]
        exact ih i (by simpa using hp)
  have hget : ∀ (i : Nat) (e : En), (cs.map enOf)[i]? = some e → ∃ p, cs[i]? = some p ∧ e = enOf p := by
    intro i e he
    rw [List.getElem?_map, Option.map_eq_some_iff] at he
    obtain ⟨p, h1, h2⟩ := he
    exact ⟨p, h1, h2.symm⟩
  have hval : ∀ (i : Nat) (p : Eo), cs[i]? = some p → IsP w (fun b => b < w.heap.size) p.2.2 (.agg (th5 p.2.1).toArray) := fun i p hp => (h.el p (List.mem_of_getElem? hp)).1.weak (fun b hb => hb.1.2.1)
  have hV : ∀ (i : Nat) (p : Eo), cs[i]? = some p → ((cs[i]?.map (fun p => th5 p.2.1)).getD []) = th5 p.2.1 := fun i p hp => by rw [hp]; rfl
  have h5 : ∀ t : Th5, (th5 t).length = 5 := fun t => by obtain ⟨t0, t1, t2, t3, t4, t5, t6, t7, t8⟩ := t; rfl
  rcases h.row.2 with ⟨e, e2⟩ | ⟨g, cap, cur, e, hlo, hg, hcap, hmax, hsz, hcur⟩
  · have : cs = [] := List.eq_nil_of_length_eq_zero e2
    subst this
    exact ⟨none, 0, e, fun _ => [], (fun _ => ⟨rfl, rfl⟩), Nat.le_refl _, by simp, (fun a ha => by cases ha), (fun e he => by cases he), fun i e he => by simp at he⟩
  · refine ⟨some ⟨g, 0, none⟩, cap, e, fun i => (cs[i]?.map (fun p => th5 p.2.1)).getD [], (fun e => by cases e), by rw [List.length_map]; exact hcap, by rw [List.length_map]; omega, ?_, ?_, ?_⟩
    · intro a ha i x hx
      cases ha
      obtain ⟨p, hp, rfl⟩ := hget i x hx
      refine ⟨(Array.getElem?_eq_some_iff.1 hg).1, fun j v hv => ?_⟩
      rw [hV i p hp] at hv
      have := h.row.cells (g := g) (by rw [e]; rfl) _ _ (hcell i p hp j v hv)
      rw [add_offC] at this
      have hadd : ((⟨g, 0, none⟩ : Addr).add (i * 6)).add j = ⟨g, 0 + (i * 6 + j), none⟩ := by rw [add_offC, add_offC, Nat.zero_add, Nat.zero_add]
      rw [hadd]
      exact this
    · intro x hx
      obtain ⟨p, hp, rfl⟩ := List.mem_map.1 hx
      exact hb p hp
    · intro i x hx
      obtain ⟨p, hp, rfl⟩ := hget i x hx
      rw [hV i p hp]
      exact ⟨h5 _, hval i p hp⟩
end Go.Proofs.Ytjhnbopejnpbeaa

/-
  value.Record and the document's, each with one contract over entries in memory; conditions: the form's own reach.
  What ValueRecords keeps: the row of entries that is lent; no conditions.
-/
import Derived.Test.YtcopkhmmpamboaaB28
import Derived.Test.YtcopkhmmpamboaaB29
import Derived.Test.YtcopkhmmpamboaaB50
import Derived.Test.YtcopkhmmpamboaaB04
namespace Go.Proofs.Ytcopkhmmpamboaa
open Go.RowKit
set_option linter.unusedVariables false
set_option linter.unusedSimpArgs false

/-- what Record gives -/
def rcV (es : List En) : Vl := if docC es = 0 then recOf es else zeroVl

theorem recDQ_any (es : List En) (al : Option Addr) (cl B : Nat) (w : World) (h : IsE w (fun b => b < B) es al cl) (hBs : B ≤ w.heap.size) :
    Calls Try.prog 9 #[.slice al es.length cl] w fun e w' => ∃ x', e = .returned (.tuple #[x', .int .i64 (docC es)]) ∧ Below w.heap.size w w' ∧ IsV w' w'.heap.size (rcV es) x' := by
  refine (recD_any es al cl B w h hBs).mono ?_
  rintro e w' ⟨x', rfl, b, q1, q2⟩
  refine ⟨x', rfl, b, ?_⟩
  unfold rcV
  by_cases h : docC es = 0
  · rw [if_pos h]; exact q1 h
  · rw [if_neg h, q2 h]; exact (zero_isQ w' (fun b => b < w'.heap.size)).1

/-- an entry out of its key and its value's cells -/
def entOf (k : ByteArray) : List Value → Ent
  | [.int _ x0, .int _ x1, .string x2, .slice al ll cl, .slice ak m ck] => (k, x0, x1, x2, (al, ll, cl), ak, m, ck)
  | _ => (k, 0, 0, ⟨#[]⟩, (none, 0, 0), none, 0, 0)

theorem entOf_val {w : World} {P : Nat → Prop} {v : Vl} {c : List Value} (k : ByteArray) (h : IsP w P v (.agg c.toArray)) : valE (entOf k c) = c ∧ (entOf k c).1 = k ∧ encE (entOf k c) = Value.string k :: c := by
  obtain ⟨k', n', s', l', ks', al', ak', cl', ck', hy', hx⟩ := h.shape
  have hc : c = [.int .i64 k', .int .i64 n', .string s', .slice al' l'.length cl', .slice ak' ks'.length ck'] := by
    have h1 := Value.agg.inj hx
    have h2 := congrArg Array.toList h1
    simpa using h2
  subst hc
  exact ⟨rfl, rfl, rfl⟩

theorem recQ_any (es : List En) (al : Option Addr) (cl B : Nat) (w : World) (h : IsE w (fun b => b < B) es al cl) (hBs : B ≤ w.heap.size) :
    Calls Try.prog 8 #[.slice al es.length cl] w fun e w' => ∃ x', e = .returned (.tuple #[x', .int .i64 (docC es)]) ∧ Below w.heap.size w w' ∧ IsQ w' (fun b => w.heap.size ≤ b ∧ b < w'.heap.size) (rcV es) x' := by
  by_cases hlong : 2048 < es.length
  · have hC : docC es = 33 := by unfold docC; rw [if_pos hlong]
    refine (rec_long al cl es.length w hlong).mono ?_
    rintro e w' ⟨rfl, b⟩
    refine ⟨_, by rw [hC], b, ?_⟩
    unfold rcV
    rw [if_neg (by rw [hC]; decide)]
    exact zero_isQ _ _
  · obtain ⟨V, hf⟩ := h
    obtain ⟨Y, hY⟩ : ∃ Y : Ent → Vl, ∀ x v, IsV w B v (.agg (valE x).toArray) → Y x = v := by
      classical
      refine ⟨fun x => if h : ∃ v, IsV w B v (.agg (valE x).toArray) then Classical.choose h else zeroVl, fun x v hv => ?_⟩
      have h : ∃ v, IsV w B v (.agg (valE x).toArray) := ⟨v, hv⟩
      show (if h : ∃ v, IsV w B v (.agg (valE x).toArray) then Classical.choose h else zeroVl) = v
      rw [dif_pos h]
      exact isP_one _ _ _ _ (Nat.le_refl _) (Classical.choose_spec h) hv
    obtain ⟨dl, hdl⟩ : ∃ dl, es.mapIdx (fun i e => entOf e.1 (V i)) = dl := ⟨_, rfl⟩
    have hat : ∀ i x, dl[i]? = some x → ∃ e, es[i]? = some e ∧ x = entOf e.1 (V i) := fun i x hx => by
      rw [← hdl, List.getElem?_mapIdx] at hx
      obtain ⟨e, he, rfl⟩ := Option.map_eq_some_iff.1 hx
      exact ⟨e, he, rfl⟩
    have hlen : dl.length = es.length := by rw [← hdl, List.length_mapIdx]
    obtain ⟨d, hd⟩ : ∃ d : Array Ent, d = dl.toArray := ⟨_, rfl⟩
    have hdt : d.toList = dl := by rw [hd]
    have hds : d.size = es.length := by rw [hd]; simpa using hlen
    have hgd : ∀ i, i < es.length → ∃ e, es[i]? = some e ∧ d[i]! = entOf e.1 (V i) := fun i hi => by
      obtain ⟨x, hx⟩ : ∃ x, dl[i]? = some x := ⟨_, List.getElem?_eq_getElem (by omega)⟩
      obtain ⟨e, he, rfl⟩ := hat i x hx
      refine ⟨e, he, ?_⟩
      rw [getElem!_pos d i (by omega)]
      have : d[i]? = some (entOf e.1 (V i)) := by rw [hd]; simpa using hx
      rw [Array.getElem?_eq_getElem (by omega)] at this
      exact Option.some.inj this
    have hmem : ∀ x ∈ d.toList, ∃ i e, es[i]? = some e ∧ x = entOf e.1 (V i) := fun x hx => by
      rw [hdt] at hx
      obtain ⟨i, hi⟩ := List.getElem?_of_mem hx
      obtain ⟨e, he, hxe⟩ := hat i x hi
      exact ⟨i, e, he, hxe⟩
    have hYe : ∀ i e, es[i]? = some e → Y (entOf e.1 (V i)) = e.2 := fun i e he => by
      have h1 := (hf.hv i e he).2
      exact hY _ _ (by rw [(entOf_val e.1 h1).1]; exact h1)
    have hsh : Shows w al d.size cl 6 (Go.Sort.flatK encE 6 d).toList := by
      refine ⟨by rw [Array.length_toList, Go.Sort.size_flatK], fun e => by have := hf.nl e; omega, fun a ha t u hu => ?_, fun u hu => ?_⟩
      · have hlt := (List.getElem?_eq_some_iff.1 hu).1
        rw [Array.length_toList, Go.Sort.size_flatK] at hlt
        have h2 := Go.Sort.get_flatK encE 6 d t hlt
        rw [Array.getElem?_toList, Array.getElem?_eq_getElem (by rw [Go.Sort.size_flatK]; exact hlt)] at hu
        rw [getElem!_pos _ t (by rw [Go.Sort.size_flatK]; exact hlt), Option.some.inj hu] at h2
        obtain ⟨e, he, hde⟩ := hgd (t / 6) (by omega)
        rw [hde, (entOf_val e.1 (hf.hv _ e he).2).2.2] at h2
        have h3 := (hf.hl a ha (t / 6) e he).2 (t % 6) u (by
          have h5 := (hf.hv _ e he).1
          rw [h2, List.getElem!_eq_getElem?_getD, List.getElem?_eq_getElem (by simp; omega)]
          rfl)
        have ha2 : (a.add (t / 6 * 6)).add (t % 6) = a.add t := by rw [add_add5, show t / 6 * 6 + t % 6 = t by omega]
        rw [ha2] at h3
        exact h3
      · obtain ⟨t, hu⟩ := List.getElem?_of_mem hu
        have hlt := (List.getElem?_eq_some_iff.1 hu).1
        rw [Array.length_toList, Go.Sort.size_flatK] at hlt
        have h2 := Go.Sort.get_flatK encE 6 d t hlt
        rw [Array.getElem?_toList, Array.getElem?_eq_getElem (by rw [Go.Sort.size_flatK]; exact hlt)] at hu
        rw [getElem!_pos _ t (by rw [Go.Sort.size_flatK]; exact hlt), Option.some.inj hu] at h2
        rw [h2]
        have hm : t % 6 < 6 := Nat.mod_lt _ (by omega)
        generalize t % 6 = q at hm
        match q, hm with
        | 0, _ => rfl
        | 1, _ => rfl
        | 2, _ => rfl
        | 3, _ => rfl
        | 4, _ => rfl
        | 5, _ => rfl
    have hpairs : d.toList.map (fun x => (x.1, Y x)) = es := by
      rw [hdt]
      apply List.ext_getElem?
      intro i
      rw [List.getElem?_map]
      by_cases hi : i < es.length
      · obtain ⟨x, hx⟩ : ∃ x, dl[i]? = some x := ⟨_, List.getElem?_eq_getElem (by omega)⟩
        obtain ⟨e, he, rfl⟩ := hat i x hx
        rw [hx, he, Option.map_some, hYe i e he, (entOf_val e.1 (hf.hv i e he).2).2.1]
      · rw [List.getElem?_eq_none (by omega), List.getElem?_eq_none (by omega)]
        rfl
    have CR := rec_any al cl B d Y w hsh (fun x hx => by
      obtain ⟨i, e, he, rfl⟩ := hmem x hx
      have h1 := (hf.hv i e he).2
      rw [hYe i e he, (entOf_val e.1 h1).1]
      exact h1) (fun x hx => by
      obtain ⟨i, e, he, rfl⟩ := hmem x hx
      rw [(entOf_val e.1 (hf.hv i e he).2).2.1]
      exact hf.bt e (List.mem_of_getElem? he)) hBs (by omega)
    rw [hds] at CR
    refine CR.mono ?_
    rintro e w' ⟨d', x', ⟨hs1, hs2, hs3⟩, rfl, b, q1, q2⟩
    have hcd := code_doc es (d'.toList.map (fun x => (x.1, Y x))) (by omega) (by rw [← hpairs]; exact hs2.map _) (by
      rw [List.pairwise_map, List.pairwise_iff_getElem]
      intro i j hi hj hij
      have h1 : i < d'.size := by simpa using hi
      have h2 : j < d'.size := by simpa using hj
      have h3 := hs3 i j hij (by omega)
      rw [getElem!_pos d' i h1, getElem!_pos d' j h2] at h3
      simpa using h3)
    rw [List.map_map, List.map_map] at hcd
    have hcd1 : recC (d'.toList.map (fun x => x.1)) (d'.toList.map Y) = docC es := hcd.1
    have hcd2 : docC es = 0 → Vl.mk 5 0 ⟨#[]⟩ (d'.toList.map Y) (d'.toList.map (fun x => x.1)) = recOf es := hcd.2
    rw [hcd1] at q1 q2
    refine ⟨x', by rw [hcd1], b, ?_⟩
    unfold rcV
    by_cases h : docC es = 0
    · rw [if_pos h, ← hcd2 h]; exact q1 h
    · rw [if_neg h, q2 h]; exact zero_isQ _ _
end Go.Proofs.Ytcopkhmmpamboaa

namespace Go.Proofs.Ytcopkhmmpamboaa
open Go.RowKit
set_option linter.unusedVariables false
set_option linter.unusedSimpArgs false

def sixSet (w : World) (b i : Nat) (y0 y1 y2 y3 y4 y5 : Value) : World := (((((w.setCell ⟨b, i * 6, none⟩ y0).setCell ⟨b, i * 6 + 1, none⟩ y1).setCell ⟨b, i * 6 + 2, none⟩ y2).setCell ⟨b, i * 6 + 3, none⟩ y3).setCell ⟨b, i * 6 + 4, none⟩ y4).setCell ⟨b, i * 6 + 5, none⟩ y5

theorem sixSet_facts (w : World) (b i : Nat) (y0 y1 y2 y3 y4 y5 : Value) : (∀ c, c ≠ b → (sixSet w b i y0 y1 y2 y3 y4 y5).heap[c]? = w.heap[c]?) ∧ (sixSet w b i y0 y1 y2 y3 y4 y5).heap.size = w.heap.size ∧ Below b w (sixSet w b i y0 y1 y2 y3 y4 y5) := by
  refine ⟨fun c hc => ?_, by simp [sixSet], ?_⟩
  · unfold sixSet
    rw [heap_setCell_other _ _ _ _ hc, heap_setCell_other _ _ _ _ hc, heap_setCell_other _ _ _ _ hc, heap_setCell_other _ _ _ _ hc, heap_setCell_other _ _ _ _ hc, heap_setCell_other _ _ _ _ hc]
  · unfold sixSet
    exact ((((((Below.refl b w).setCell (p := ⟨b, i * 6, none⟩) (Nat.le_refl _) y0).setCell (p := ⟨b, i * 6 + 1, none⟩) (Nat.le_refl _) y1).setCell (p := ⟨b, i * 6 + 2, none⟩) (Nat.le_refl _) y2).setCell (p := ⟨b, i * 6 + 3, none⟩) (Nat.le_refl _) y3).setCell (p := ⟨b, i * 6 + 4, none⟩) (Nat.le_refl _) y4).setCell (p := ⟨b, i * 6 + 5, none⟩) (Nat.le_refl _) y5

theorem sixSet_row {w : World} {b i : Nat} {C : Array Value} {T : TypeId} (y0 y1 y2 y3 y4 y5 : Value) (h : w.heap[b]? = some (.cells C T (0, 0))) (hi : i * 6 + 6 ≤ C.size) :
    ∃ C', (sixSet w b i y0 y1 y2 y3 y4 y5).heap[b]? = some (.cells C' T (0, 0)) ∧ C'.size = C.size ∧ (∀ k v, [y0, y1, y2, y3, y4, y5][k]? = some v → C'[i * 6 + k]? = some v) ∧ ∀ j k, j ≠ i → k < 6 → C'[j * 6 + k]? = C[j * 6 + k]? := by
  have h0 := heap_setCell_same w b (i * 6) _ T y0 h
  have h1 := heap_setCell_same _ b (i * 6 + 1) _ T y1 h0
  have h2 := heap_setCell_same _ b (i * 6 + 2) _ T y2 h1
  have h3 := heap_setCell_same _ b (i * 6 + 3) _ T y3 h2
  have h4 := heap_setCell_same _ b (i * 6 + 4) _ T y4 h3
  have h5 := heap_setCell_same _ b (i * 6 + 5) _ T y5 h4
  refine ⟨_, h5, by simp, fun k v hk => ?_, fun j k hj hk => ?_⟩
  · match k, hk with
    | 0, hk => cases hk; simp [Array.getElem?_setIfInBounds, show i * 6 < C.size by omega]
    | 1, hk => cases hk; simp [Array.getElem?_setIfInBounds, show i * 6 + 1 < C.size by omega]
    | 2, hk => cases hk; simp [Array.getElem?_setIfInBounds, show i * 6 + 2 < C.size by omega]
    | 3, hk => cases hk; simp [Array.getElem?_setIfInBounds, show i * 6 + 3 < C.size by omega]
    | 4, hk => cases hk; simp [Array.getElem?_setIfInBounds, show i * 6 + 4 < C.size by omega]
    | 5, hk => cases hk; simp [Array.getElem?_setIfInBounds, show i * 6 + 5 < C.size by omega]
    | k + 6, hk => simp at hk
  · have g0 : ¬ i * 6 = j * 6 + k := by omega
    have g1 : ¬ i * 6 + 1 = j * 6 + k := by omega
    have g2 : ¬ i * 6 + 2 = j * 6 + k := by omega
    have g3 : ¬ i * 6 + 3 = j * 6 + k := by omega
    have g4 : ¬ i * 6 + 4 = j * 6 + k := by omega
    have g5 : ¬ i * 6 + 5 = j * 6 + k := by omega
    rw [Array.getElem?_setIfInBounds_ne g5, Array.getElem?_setIfInBounds_ne g4, Array.getElem?_setIfInBounds_ne g3, Array.getElem?_setIfInBounds_ne g2, Array.getElem?_setIfInBounds_ne g1, Array.getElem?_setIfInBounds_ne g0]

theorem LentOk.raise {u : World} {lo hi lo' hi' : Nat} {v : Vl} {x y : Value} (h : LentOk u lo hi v x y) (h1 : lo' ≤ lo) (h2 : hi ≤ hi') : LentOk u lo' hi' v x y := by
  rcases h with ⟨a, b⟩ | h
  · exact Or.inl ⟨a, b.to (fun _ _ => rfl) (fun b hb => ⟨by omega, by omega⟩)⟩
  · exact Or.inr h

/-- a row of entries, the first i lent -/
structure Er (w u : World) (g bi S n i : Nat) (es : List En) (V0 : Nat → List Value) : Prop where
  row : ∃ C : Array Value, u.heap[bi]? = some (.cells C 29 (0, 0)) ∧ C.size = n * 6 ∧ ∀ (j : Nat) (e : En), j < i → es[j]? = some e → ∃ c : List Value, c.length = 5 ∧ (∀ (k : Nat) (v : Value), (Value.string e.1 :: c)[k]? = some v → C[j * 6 + k]? = some v) ∧ LentOk u (bi + 1) S e.2 (.agg (V0 j).toArray) (.agg c.toArray)
  below : Below g w u
  low : g ≤ bi
  lt : bi < S
  top : S ≤ u.heap.size

theorem Er.later {w u u1 : World} {g bi S n i : Nat} {es : List En} {V0 : Nat → List Value} (h : Er w u g bi S n i es V0) (hu : Below u.heap.size u u1) : Er w u1 g bi S n i es V0 := by
  have h1 := h.low
  have h2 := h.lt
  have h3 := h.top
  obtain ⟨C, c1, c2, c3⟩ := h.row
  refine ⟨⟨C, (hu.block bi (by omega)).trans c1, c2, fun j e hj he => ?_⟩, h.below.trans (hu.mono (by omega)), h1, h2, Nat.le_trans h3 hu.size⟩
  obtain ⟨c, d1, d2, d3⟩ := c3 j e hj he
  exact ⟨c, d1, d2, d3.to (fun b _ hb => hu.block b (by omega))⟩

theorem Er.wipe {w u u1 : World} {g bi S n i lo hi : Nat} {es : List En} {V0 : Nat → List Value} (h : Er w u g bi S n i es V0) (hw : Wiped (fun b => lo ≤ b ∧ b < hi) u u1) (hl : S ≤ lo) : Er w u1 g bi S n i es V0 := by
  have h1 := h.low
  have h2 := h.lt
  have h3 := h.top
  obtain ⟨C, c1, c2, c3⟩ := h.row
  refine ⟨⟨C, (hw.far (by omega) (by omega)).trans c1, c2, fun j e hj he => ?_⟩, h.below.trans (hw.below (by omega) (fun b hb => by omega)), h1, h2, Nat.le_trans h3 hw.size⟩
  obtain ⟨c, d1, d2, d3⟩ := c3 j e hj he
  exact ⟨c, d1, d2, d3.to (fun b _ hb => hw.far (by omega) (by omega))⟩

theorem Er.next {w u u1 : World} {g bi S n i : Nat} {es : List En} {V0 : Nat → List Value} {e : En} {y0 y1 y2 y3 y4 : Value} (h : Er w u g bi S n i es V0) (hu : Below u.heap.size u u1) (hi : i < n) (he : es[i]? = some e) (hl : LentOk u1 u.heap.size u1.heap.size e.2 (.agg (V0 i).toArray) (.agg #[y0, y1, y2, y3, y4])) :
    Er w (sixSet u1 bi i (.string e.1) y0 y1 y2 y3 y4) g bi u1.heap.size n (i + 1) es V0 := by
  have h' := h.later hu
  have h1 := h'.low
  have h2 := h'.lt
  have h3 := h'.top
  have h4 := h.top
  have h5 := hu.size
  obtain ⟨C, c1, c2, c3⟩ := h'.row
  obtain ⟨f1, f2, f3⟩ := sixSet_facts u1 bi i (.string e.1) y0 y1 y2 y3 y4
  obtain ⟨C', d1, d2, d3, d4⟩ := sixSet_row (i := i) (.string e.1) y0 y1 y2 y3 y4 c1 (by omega)
  refine ⟨⟨C', d1, by omega, fun j e' hj he' => ?_⟩, h'.below.trans (f3.mono h1), h1, by omega, by omega⟩
  by_cases hji : j = i
  · subst hji
    rw [he] at he'
    cases he'
    refine ⟨[y0, y1, y2, y3, y4], rfl, d3, ?_⟩
    exact (hl.to (fun b h6 h7 => f1 b (by omega))).raise (by omega) (Nat.le_refl _)
  · obtain ⟨c, q1, q2, q3⟩ := c3 j e' (by omega) he'
    refine ⟨c, q1, fun k v hk => ?_, (q3.to (fun b h6 h7 => f1 b (by omega))).raise (Nat.le_refl _) h3⟩
    have hk6 : k < 6 := by have := (List.getElem?_eq_some_iff.1 hk).1; simp at this; omega
    rw [d4 j k hji hk6]
    exact q2 k v hk

theorem Er.cells {w u : World} {g bi S n i : Nat} {es : List En} {V0 : Nat → List Value} (h : Er w u g bi S n i es V0) {q : Nat} (hq : q < n) : (∀ k, k < 6 → ∃ z, u.cell? ⟨bi, q * 6 + k, none⟩ = some z) ∧ ∀ j, u.frozen? ⟨bi, j, none⟩ = false := by
  obtain ⟨C, c1, c2, c3⟩ := h.row
  refine ⟨fun k hk => ?_, fun j => frozen_of_row u bi j _ _ c1⟩
  rw [cell_of_row u bi (q * 6 + k) C _ (0, 0) c1]
  exact ⟨_, Array.getElem?_eq_getElem (by omega)⟩

/-- the cells of an entry that was lent -/
theorem Er.at {w u : World} {g bi S n i : Nat} {es : List En} {V0 : Nat → List Value} (h : Er w u g bi S n i es V0) {q : Nat} {e : En} (hq : q < i) (he : es[q]? = some e) : ∃ c : List Value, c.length = 5 ∧ (∀ (k : Nat) (v : Value), (Value.string e.1 :: c)[k]? = some v → u.cell? ⟨bi, q * 6 + k, none⟩ = some v) ∧ LentOk u (bi + 1) S e.2 (.agg (V0 q).toArray) (.agg c.toArray) := by
  obtain ⟨C, c1, c2, c3⟩ := h.row
  obtain ⟨c, d1, d2, d3⟩ := c3 q e hq he
  exact ⟨c, d1, fun k v hk => by rw [cell_of_row u bi (q * 6 + k) C _ (0, 0) c1]; exact d2 k v hk, d3⟩

theorem add6 (b i j : Nat) : ((⟨b, 0, none⟩ : Addr).add i).add j = ⟨b, i + j, none⟩ := add_two b i j

theorem Er.isE {w u : World} {g bi S n : Nat} {es : List En} {V0 : Nat → List Value} {al : Option Addr} {cl : Nat} (h : Er w u g bi S n n es V0) (hn : es.length = n) (hf : EsF u (fun b => b < g) es al cl V0) : IsE u (fun b => b < u.heap.size) es (some ⟨bi, 0, none⟩) n := by
  have h1 := h.low
  have h2 := h.lt
  have h3 := h.top
  classical
  refine ⟨fun j => if hx : ∃ c : List Value, ∀ e, es[j]? = some e → c.length = 5 ∧ (∀ (k : Nat) (v : Value), (Value.string e.1 :: c)[k]? = some v → u.cell? ⟨bi, j * 6 + k, none⟩ = some v) ∧ LentOk u (bi + 1) S e.2 (.agg (V0 j).toArray) (.agg c.toArray) then Classical.choose hx else [], (fun e => by cases e), by omega, hf.bl, ?_, hf.bt, ?_⟩
  · intro a ha j e he
    cases ha
    refine ⟨by show bi < u.heap.size; omega, fun k v hk => ?_⟩
    have hj := (List.getElem?_eq_some_iff.1 he).1
    obtain ⟨c, d1, d2, d3⟩ := h.at (q := j) (by omega) he
    have hx : ∃ c : List Value, ∀ e, es[j]? = some e → c.length = 5 ∧ (∀ (k : Nat) (v : Value), (Value.string e.1 :: c)[k]? = some v → u.cell? ⟨bi, j * 6 + k, none⟩ = some v) ∧ LentOk u (bi + 1) S e.2 (.agg (V0 j).toArray) (.agg c.toArray) := ⟨c, fun e' he' => by rw [he] at he'; cases he'; exact ⟨d1, d2, d3⟩⟩
    rw [dif_pos hx] at hk
    rw [add6]
    exact (Classical.choose_spec hx e he).2.1 k v hk
  · intro j e he
    have hj := (List.getElem?_eq_some_iff.1 he).1
    obtain ⟨c, d1, d2, d3⟩ := h.at (q := j) (by omega) he
    have hx : ∃ c : List Value, ∀ e, es[j]? = some e → c.length = 5 ∧ (∀ (k : Nat) (v : Value), (Value.string e.1 :: c)[k]? = some v → u.cell? ⟨bi, j * 6 + k, none⟩ = some v) ∧ LentOk u (bi + 1) S e.2 (.agg (V0 j).toArray) (.agg c.toArray) := ⟨c, fun e' he' => by rw [he] at he'; cases he'; exact ⟨d1, d2, d3⟩⟩
    rw [dif_pos hx]
    have hs := Classical.choose_spec hx e he
    exact ⟨hs.1, hs.2.2.isV (hf.hv j e he).2 h3 (by omega)⟩

theorem EsF.to {w w' : World} {P Q : Nat → Prop} (hw : ∀ b, P b → w'.heap[b]? = w.heap[b]?) (hP : ∀ b, P b → Q b) {es : List En} {al : Option Addr} {cl : Nat} {V : Nat → List Value} (h : EsF w P es al cl V) : EsF w' Q es al cl V := by
  refine ⟨h.nl, h.ll, h.bl, fun a ha i e he => ⟨hP _ (h.hl a ha i e he).1, fun j v hv => ?_⟩, h.bt, fun i e he => ⟨(h.hv i e he).1, (h.hv i e he).2.to hw hP⟩⟩
  have e : w'.cell? ((a.add (i * 6)).add j) = w.cell? ((a.add (i * 6)).add j) := World.cell?_of_block (by rw [block_add, block_add]; exact hw _ (h.hl a ha i e he).1)
  rw [e]
  exact (h.hl a ha i _ he).2 j v hv

theorem five_list {c : List Value} {w : World} {P : Nat → Prop} {v : Vl} (h : IsP w P v (.agg c.toArray)) : ∃ p0 p1 p2 p3 p4 p5 p6 p7 p8, c = [.int .i64 p0, .int .i64 p1, .string p2, .slice p3 p4 p5, .slice p6 p7 p8] := by
  obtain ⟨p0, p1, p2, p3, p4, p5, p6, p7, p8, hx⟩ := shape9 h
  have h1 := Value.agg.inj hx
  have h2 := congrArg Array.toList h1
  exact ⟨p0, p1, p2, p3, p4, p5, p6, p7, p8, by simpa using h2⟩
end Go.Proofs.Ytcopkhmmpamboaa

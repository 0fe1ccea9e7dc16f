/-
  What is so while state.Apply goes through the keys; no conditions.
-/
import Derived.Test.YtjhnbopejnpbeaaA43
import Derived.Test.YtjhnbopejnpbeaaA46
set_option linter.unusedVariables false
set_option linter.unusedSimpArgs false
namespace Go.Proofs.Ytjhnbopejnpbeaa
open Go.RowKit Go.Shelf
set_option linter.unusedVariables false
set_option linter.unusedSimpArgs false

def lk {α : Type} (l : List α) (o : Option Nat) : Option α := o.bind (fun a => l[a]?)
def outI (es : List En) (cs : List Ch) (x : Option Nat × Option Nat) : List En := outA (lk es x.1, lk cs x.2)
def leadI (es : List En) (cs : List Ch) (x : Option Nat × Option Nat) : Bool := leadE (lk es x.1, lk cs x.2)

theorem sdN_out (es : List En) (cs : List Ch) (f : Nat) : (sdN (keysE es) (keysH cs) f 0 0).flatMap (outI es cs) = apL f es cs := by
  have h := sdN_mg (fun e : En => e.1) (fun e : Ch => e.1) es cs f 0 0
  unfold apL
  rw [show mg (fun e : En => e.1) (fun e : Ch => e.1) f es cs = mg (fun e : En => e.1) (fun e : Ch => e.1) f (es.drop 0) (cs.drop 0) from rfl, ← h, List.flatMap_map]
  rfl

theorem sdN_lead (es : List En) (cs : List Ch) (f : Nat) : (sdN (keysE es) (keysH cs) f 0 0).all (leadI es cs) = apB f es cs := by
  have h := sdN_mg (fun e : En => e.1) (fun e : Ch => e.1) es cs f 0 0
  unfold apB
  rw [show mg (fun e : En => e.1) (fun e : Ch => e.1) f es cs = mg (fun e : En => e.1) (fun e : Ch => e.1) f (es.drop 0) (cs.drop 0) from rfl, ← h, List.all_map]
  rfl

/-- what is so of the entries while Apply goes through the keys -/
structure ApI (w w7 W : World) (go g4 g5 B : Nat) (es : List En) (cs : List Ch) (xs : List (Option Nat × Option Nat)) : Prop where
  mk' ::
  ex : ∃ sv ps, W.heap[go]? = some (.cells #[sv] 22 (0, 0)) ∧ EnP W w7.heap.size B sv ps ∧ ps.map enOf = xs.flatMap (outI es cs) ∧ ps.length ≤ xs.length
  r4 : W.heap[g4]? = some (.cells #[.slice none 0 0] 22 (0, 0))
  r5 : W.heap[g5]? = some (.cells #[.int .i64 0] 26 (0, 0))
  lead : xs.all (leadI es cs) = true
  below : Below w.heap.size w W
  size : w7.heap.size ≤ W.heap.size

theorem ApI.grown {w w7 W W' : World} {go g4 g5 B : Nat} {es : List En} {cs : List Ch} {xs : List (Option Nat × Option Nat)} {row : Option Nat} (h : ApI w w7 W go g4 g5 B es cs xs) (hw : w.heap.size ≤ w7.heap.size) (hg : W.grownBy W' row) (hr : ∀ r, row = some r → w7.heap.size ≤ r ∧ ∃ o : Obj, W.heap[r]? = some o ∧ o.isCells = false) : ApI w w7 W' go g4 g5 B es cs xs := by
  obtain ⟨⟨sv, ps, h1, h2, h3, h4⟩, r4, r5, hl, h5, h6⟩ := h
  have hne : ∀ b, isC W b → some b ≠ row := fun b hb e => by
    obtain ⟨_, o, ho, hc⟩ := hr b e.symm
    obtain ⟨c, T, f, hh⟩ := hb
    rw [hh] at ho
    cases ho
    cases hc
  have hk : ∀ (b : Nat) (c : Array Value) (T : TypeId) (f : Nat × Nat), W.heap[b]? = some (.cells c T f) → W'.heap[b]? = some (.cells c T f) := fun b c T f hb => (hg.block b (Array.getElem?_eq_some_iff.1 hb).1 (hne _ ⟨_, _, _, hb⟩)).trans hb
  refine ⟨⟨sv, ps, hk _ _ _ _ h1, h2.to hg.size (fun b hb => ?_) (fun b hb => ?_), h3, h4⟩, hk _ _ _ _ r4, hk _ _ _ _ r5, hl, h5.grown hg (by have := h5.size; omega) (fun k hk => by have a1 := (hr k hk).1; omega), by have := hg.size; omega⟩
  · obtain ⟨c, hc⟩ := row_ty h2.row hb
    exact hg.block b (Array.getElem?_eq_some_iff.1 hc).1 (hne _ ⟨_, _, _, hc⟩)
  · have h7 := h2.top
    have h8 := h2.low
    exact hg.block b (by omega) (fun e => by have := (hr b e.symm).1; omega)

theorem ApI.later {w w7 W W' : World} {go g4 g5 B : Nat} {es : List En} {cs : List Ch} {xs : List (Option Nat × Option Nat)} (h : ApI w w7 W go g4 g5 B es cs xs) (hb : Below W.heap.size W W') : ApI w w7 W' go g4 g5 B es cs xs := by
  obtain ⟨⟨sv, ps, h1, h2, h3, h4⟩, r4, r5, hl, h5, h6⟩ := h
  have hk : ∀ (b : Nat) (c : Array Value) (T : TypeId) (f : Nat × Nat), W.heap[b]? = some (.cells c T f) → W'.heap[b]? = some (.cells c T f) := fun b c T f h => (hb.block b (Array.getElem?_eq_some_iff.1 h).1).trans h
  refine ⟨⟨sv, ps, hk _ _ _ _ h1, h2.to hb.size (fun b hb' => ?_) (fun b hb' => ?_), h3, h4⟩, hk _ _ _ _ r4, hk _ _ _ _ r5, hl, h5.trans (hb.mono h5.size), Nat.le_trans h6 hb.size⟩
  · obtain ⟨c, hc⟩ := row_ty h2.row hb'
    exact hb.block b (Array.getElem?_eq_some_iff.1 hc).1
  · have h7 := h2.top
    exact hb.block b (by omega)

/-- one more entry -/
theorem ApI.push {w w7 W W4 W5 : World} {go g4 g5 B q g cap sc : Nat} {so : Option Addr} {es : List En} {cs : List Ch} {xs : List (Option Nat × Option Nat)} {x : Option Nat × Option Nat} {ps : List Eo} {k : ByteArray} {c : Th5} {y : Vl}
    (h1 : W.heap[go]? = some (.cells #[.slice so q sc] 22 (0, 0))) (h2 : EnP W w7.heap.size B (.slice so q sc) ps) (h3 : ps.map enOf = xs.flatMap (outI es cs)) (h4 : ps.length ≤ xs.length) (r4 : W.heap[g4]? = some (.cells #[.slice none 0 0] 22 (0, 0))) (r5 : W.heap[g5]? = some (.cells #[.int .i64 0] 26 (0, 0))) (hl : xs.all (leadI es cs) = true) (h5 : Below w.heap.size w W) (h6 : w7.heap.size ≤ W.heap.size) (hq : ps.length = q) (hw : w.heap.size ≤ go) (hw7 : go < w7.heap.size ∧ g4 < w7.heap.size ∧ g5 < w7.heap.size) (hne : g4 ≠ go ∧ g5 ≠ go) (hBg : B ≤ w.heap.size) (hx : outI es cs x = [(k, y)]) (hlx : leadI es cs x = true)
    (b4 : Below W.heap.size W W4) (q4 : IsV W B y (.agg (th5 c).toArray)) (o5 : W5.ownsRow w7.heap.size 48 6 (.slice (some ⟨g, 0, none⟩) (q + 1) cap) (q + 1) (cellsN ps ++ (.string k :: th5 c))) (g5' : W4.grownBy W5 (Value.slice so q sc).ownBlock) :
    KeepsFrom w7.heap.size W (W5.setCell ⟨go, 0, none⟩ (.slice (some ⟨g, 0, none⟩) (q + 1) cap)) ∧ KeepS (fun b => b < w7.heap.size ∧ b ≠ go) (fun T => T = 55 ∨ T = 68) W (W5.setCell ⟨go, 0, none⟩ (.slice (some ⟨g, 0, none⟩) (q + 1) cap)) ∧ ApI w w7 (W5.setCell ⟨go, 0, none⟩ (.slice (some ⟨g, 0, none⟩) (q + 1) cap)) go g4 g5 B es cs (xs ++ [x]) := by
  have gw1 : go < W.heap.size := (Array.getElem?_eq_some_iff.1 h1).1
  have h24 : EnP W4 w7.heap.size B (.slice so q sc) ps := h2.to b4.size (fun b hb => by
    obtain ⟨c, hc⟩ := row_ty h2.row hb
    exact b4.block b (Array.getElem?_eq_some_iff.1 hc).1) (fun b hb => by have := h2.top; exact b4.block b (by omega))
  have gn : ∀ b, b < w7.heap.size → some b ≠ (Value.slice so q sc).ownBlock := fun b hb e => by have := (h2.row.lt b e.symm).1; omega
  have hpush := h24.push (k := k) (c := c) (y := y) hq (q4.to (fun b hb => by have := h2.top; exact b4.block b (by omega)) (fun b hb => hb)) o5 g5'
  have e1 : (W5.setCell ⟨go, 0, none⟩ (.slice (some ⟨g, 0, none⟩) (q + 1) cap)).heap[go]? = some (.cells #[.slice (some ⟨g, 0, none⟩) (q + 1) cap] 22 (0, 0)) := heap_setCell_same W5 go 0 _ _ _ ((g5'.block go (Nat.lt_of_lt_of_le gw1 b4.size) (gn _ hw7.1)).trans ((b4.block go gw1).trans h1))
  have hoth : ∀ b, b ≠ go → (W5.setCell ⟨go, 0, none⟩ (.slice (some ⟨g, 0, none⟩) (q + 1) cap)).heap[b]? = W5.heap[b]? := fun b hb => heap_setCell_other _ _ _ _ hb
  have hfr : Fr (fun j => j = go ∨ (Value.slice so q sc).ownBlock = some j) W (W5.setCell ⟨go, 0, none⟩ (.slice (some ⟨g, 0, none⟩) (q + 1) cap)) := (Fr.of b4).trans (G' := fun j => j = go ∨ (Value.slice so q sc).ownBlock = some j) ⟨g5'.os, g5'.tape, g5'.output, by rw [sz_setCell]; exact g5'.size, fun j hj hnn => (hoth j (fun e => hnn (.inl e))).trans (g5'.block j hj (fun e => hnn (.inr e.symm)))⟩ (fun _ _ e => e)
  obtain ⟨W6, hW6⟩ : ∃ W6, W5.setCell ⟨go, 0, none⟩ (.slice (some ⟨g, 0, none⟩) (q + 1) cap) = W6 := ⟨_, rfl⟩
  have hsz : W5.heap.size ≤ W6.heap.size := by rw [← hW6, sz_setCell]; exact Nat.le_refl _
  rw [hW6] at e1 hoth hfr ⊢
  have hkeep : ∀ b, b < w7.heap.size → b ≠ go → W6.heap[b]? = W.heap[b]? := fun b hb hn => hfr.block b (by omega) (fun e => by
    rcases e with e | e
    · exact hn e
    · exact gn b hb e.symm)
  refine ⟨⟨hfr.size, fun b o _ hb ho => (hfr.block b (Array.getElem?_eq_some_iff.1 hb).1 (fun e => ?_)).trans hb⟩, ⟨fun b hb => hkeep b hb.1 hb.2, fun b c' T f hT hb => (hfr.block b (Array.getElem?_eq_some_iff.1 hb).1 (fun e => ?_)).trans hb⟩, ⟨⟨_, _, e1, hpush.to hsz (fun b hb => hoth b (fun e => gn go hw7.1 (by
      subst e
      have := o5.lt b hb
      omega))) (fun b hb => hoth b (by omega)), by rw [List.map_append, h3, List.flatMap_append, List.flatMap_singleton, hx]; rfl, by simp; omega⟩, (hkeep _ hw7.2.1 hne.1).trans r4, (hkeep _ hw7.2.2 hne.2).trans r5, by rw [List.all_append, hl, List.all_cons, hlx]; rfl, h5.trans (hfr.below h5.size (fun j hj => ?_)), Nat.le_trans h6 hfr.size⟩⟩
  · rcases e with e | e
    · rw [e, h1] at hb
      cases hb
      cases ho
    · obtain ⟨c', hc⟩ := row_ty h2.row e
      rw [hc] at hb
      cases hb
      cases ho
  · rcases e with e | e
    · rw [e, h1] at hb
      simp only [Option.some.injEq, Obj.cells.injEq] at hb
      rcases hT with hT | hT <;> (subst hT; exact absurd hb.2.1 (by decide))
    · obtain ⟨c', hc⟩ := row_ty h2.row e
      rw [hc] at hb
      simp only [Option.some.injEq, Obj.cells.injEq] at hb
      rcases hT with hT | hT <;> (subst hT; exact absurd hb.2.1 (by decide))
  · rcases hj with hj | hj
    · omega
    · have h8 := (h2.row.lt j hj).1
      omega
end Go.Proofs.Ytjhnbopejnpbeaa

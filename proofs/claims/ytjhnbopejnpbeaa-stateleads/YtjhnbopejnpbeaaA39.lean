/-
  Changes' cells, two rows side by side of entries and changes; no conditions.
-/
import Derived.Test.YtjhnbopejnpbeaaA32
set_option linter.unusedVariables false
set_option linter.unusedSimpArgs false
namespace Go.Proofs.Ytjhnbopejnpbeaa
open Go.RowKit Go.Shelf
set_option linter.unusedVariables false
set_option linter.unusedSimpArgs false

/-- a change's cells -/
abbrev Cc := ByteArray × Bool × Int × Int × ByteArray × Option Addr × Nat × Nat × Option Addr × Nat × Nat

def ccL : Cc → List Value
  | (k, g, t0, t1, t2, t3, t4, t5, t6, t7, t8) => [.string k, .bool g, .int .i64 t0, .int .i64 t1, .string t2, .slice t3 t4 t5, .slice t6 t7 t8]

/-- a side of changes: a change or none -/
def sdC : Option Cc → List Value
  | some (k, g, t0, t1, t2, t3, t4, t5, t6, t7, t8) => [.string k, .bool g, .int .i64 t0, .int .i64 t1, .string t2, .slice t3 t4 t5, .slice t6 t7 t8, .bool true]
  | none => [.string ⟨#[]⟩, .bool false, .int .i64 0, .int .i64 0, .string ⟨#[]⟩, .slice none 0 0, .slice none 0 0, .bool false]

/-- changes' cells lie in memory -/
def RwC (w : World) (N : Nat → Prop) (ka : List ByteArray) (al : Option Addr) (C : Nat → Cc) : Prop := ∀ i k, ka[i]? = some k → (C i).1 = k ∧ ∃ a, al = some a ∧ N a.block ∧ a.block < w.heap.size ∧ ∀ j v, (ccL (C i))[j]? = some v → w.cell? ((a.add (i * 7)).add j) = some v

theorem RwC.to {w w' : World} {N : Nat → Prop} {ka : List ByteArray} {al : Option Addr} {C : Nat → Cc} (h : RwC w N ka al C) (hk : ∀ b, N b → w'.heap[b]? = w.heap[b]?) : RwC w' N ka al C := by
  intro i k hi
  obtain ⟨h1, a, h2, h3, h4, h5⟩ := h i k hi
  have hb := hk _ h3
  refine ⟨h1, a, h2, h3, ?_, fun j v hv => ?_⟩
  · obtain ⟨o, ho⟩ : ∃ o, w.heap[a.block]? = some o := ⟨_, Array.getElem?_eq_getElem h4⟩
    exact (Array.getElem?_eq_some_iff.1 (hb.trans ho)).1
  · exact (World.cell?_of_block (by rw [block_add, block_add]; exact hb)).trans (h5 j v hv)

theorem RwC.weak {w : World} {N N' : Nat → Prop} {ka : List ByteArray} {al : Option Addr} {C : Nat → Cc} (h : RwC w N ka al C) (hN : ∀ b, N b → N' b) : RwC w N' ka al C := fun i k hi => by
  obtain ⟨h1, a, h2, h3, h4, h5⟩ := h i k hi
  exact ⟨h1, a, h2, hN _ h3, h4, h5⟩

theorem set8 {w : World} {q : Nat} {z0 z1 z2 z3 z4 z5 z6 z7 : Value} {T : TypeId} (h : w.heap[q]? = some (.cells #[z0, z1, z2, z3, z4, z5, z6, z7] T (0, 0))) (y0 y1 y2 y3 y4 y5 y6 y7 : Value) :
    ((((((((w.setCell ⟨q, 0, none⟩ y0).setCell ⟨q, 1, none⟩ y1).setCell ⟨q, 2, none⟩ y2).setCell ⟨q, 3, none⟩ y3).setCell ⟨q, 4, none⟩ y4).setCell ⟨q, 5, none⟩ y5).setCell ⟨q, 6, none⟩ y6).setCell ⟨q, 7, none⟩ y7).heap[q]? = some (.cells #[y0, y1, y2, y3, y4, y5, y6, y7] T (0, 0)) := by
  have e0 := heap_setCell_same w q 0 _ T y0 h
  simp only [List.setIfInBounds_toArray, List.set_cons_zero, List.set_cons_succ] at e0
  have e1 := heap_setCell_same _ q 1 _ T y1 e0
  simp only [List.setIfInBounds_toArray, List.set_cons_zero, List.set_cons_succ] at e1
  have e2 := heap_setCell_same _ q 2 _ T y2 e1
  simp only [List.setIfInBounds_toArray, List.set_cons_zero, List.set_cons_succ] at e2
  have e3 := heap_setCell_same _ q 3 _ T y3 e2
  simp only [List.setIfInBounds_toArray, List.set_cons_zero, List.set_cons_succ] at e3
  have e4 := heap_setCell_same _ q 4 _ T y4 e3
  simp only [List.setIfInBounds_toArray, List.set_cons_zero, List.set_cons_succ] at e4
  have e5 := heap_setCell_same _ q 5 _ T y5 e4
  simp only [List.setIfInBounds_toArray, List.set_cons_zero, List.set_cons_succ] at e5
  have e6 := heap_setCell_same _ q 6 _ T y6 e5
  simp only [List.setIfInBounds_toArray, List.set_cons_zero, List.set_cons_succ] at e6
  have e7 := heap_setCell_same _ q 7 _ T y7 e6
  simp only [List.setIfInBounds_toArray, List.set_cons_zero, List.set_cons_succ] at e7
  exact e7

theorem set8_below {w w0 : World} {B q : Nat} (h : Below B w0 w) (hq : B ≤ q) (y0 y1 y2 y3 y4 y5 y6 y7 : Value) :
    Below B w0 ((((((((w.setCell ⟨q, 0, none⟩ y0).setCell ⟨q, 1, none⟩ y1).setCell ⟨q, 2, none⟩ y2).setCell ⟨q, 3, none⟩ y3).setCell ⟨q, 4, none⟩ y4).setCell ⟨q, 5, none⟩ y5).setCell ⟨q, 6, none⟩ y6).setCell ⟨q, 7, none⟩ y7) :=
  ((((((((h.setCell (p := ⟨q, 0, none⟩) hq _).setCell (p := ⟨q, 1, none⟩) hq _).setCell (p := ⟨q, 2, none⟩) hq _).setCell (p := ⟨q, 3, none⟩) hq _).setCell (p := ⟨q, 4, none⟩) hq _).setCell (p := ⟨q, 5, none⟩) hq _).setCell (p := ⟨q, 6, none⟩) hq _).setCell (p := ⟨q, 7, none⟩) hq _)

theorem set8_other {w : World} {q b : Nat} (hb : b ≠ q) (y0 y1 y2 y3 y4 y5 y6 y7 : Value) :
    ((((((((w.setCell ⟨q, 0, none⟩ y0).setCell ⟨q, 1, none⟩ y1).setCell ⟨q, 2, none⟩ y2).setCell ⟨q, 3, none⟩ y3).setCell ⟨q, 4, none⟩ y4).setCell ⟨q, 5, none⟩ y5).setCell ⟨q, 6, none⟩ y6).setCell ⟨q, 7, none⟩ y7).heap[b]? = w.heap[b]? := by
  rw [heap_setCell_other _ _ _ _ hb, heap_setCell_other _ _ _ _ hb, heap_setCell_other _ _ _ _ hb, heap_setCell_other _ _ _ _ hb, heap_setCell_other _ _ _ _ hb, heap_setCell_other _ _ _ _ hb, heap_setCell_other _ _ _ _ hb, heap_setCell_other _ _ _ _ hb]

theorem row_cell8 {w : World} {g : Nat} {x0 x1 x2 x3 x4 x5 x6 x7 : Value} {T : TypeId} (h : w.heap[g]? = some (.cells #[x0, x1, x2, x3, x4, x5, x6, x7] T (0, 0))) :
    w.cell? ⟨g, 0, none⟩ = some x0 ∧ w.cell? ⟨g, 1, none⟩ = some x1 ∧ w.cell? ⟨g, 2, none⟩ = some x2 ∧ w.cell? ⟨g, 3, none⟩ = some x3 ∧ w.cell? ⟨g, 4, none⟩ = some x4 ∧ w.cell? ⟨g, 5, none⟩ = some x5 ∧ w.cell? ⟨g, 6, none⟩ = some x6 ∧ w.cell? ⟨g, 7, none⟩ = some x7 :=
  ⟨by rw [cell_of_row w g 0 _ _ (0, 0) h]; rfl, by rw [cell_of_row w g 1 _ _ (0, 0) h]; rfl, by rw [cell_of_row w g 2 _ _ (0, 0) h]; rfl, by rw [cell_of_row w g 3 _ _ (0, 0) h]; rfl, by rw [cell_of_row w g 4 _ _ (0, 0) h]; rfl, by rw [cell_of_row w g 5 _ _ (0, 0) h]; rfl, by rw [cell_of_row w g 6 _ _ (0, 0) h]; rfl, by rw [cell_of_row w g 7 _ _ (0, 0) h]; rfl⟩

set_option maxRecDepth 100000 in
theorem ckey_any (k : ByteArray) (g : Bool) (k0 n0 : Int) (s0 : ByteArray) (al ak : Option Addr) (ll cl lk ck : Nat) (w : World) :
    Calls Try.prog 33 #[.agg #[.string k, .bool g, .int .i64 k0, .int .i64 n0, .string s0, .slice al ll cl, .slice ak lk ck]] w fun e w' => e = .returned (.string k) ∧ Below w.heap.size w w' := by
  go_enter Try.func33, Try.ntmps33
  go_wp2_with fail
  go_ret
  exact ⟨rfl, (Below.refl _ _).alloc (Nat.le_refl _) _⟩

theorem sd_takeG {α β γ : Type} {en : α → Option β × Option γ} {ps : List α} {ka kb : List ByteArray} {CA : Nat → β} {CB : Nat → γ} {k f i j : Nat} (oa ob : Option Nat) (i' j' : Nat) (h : i < ka.length ∨ j < kb.length) (hf : (ka.length - i) + (kb.length - j) ≤ f) (A B : Bool) (hA : inA ka kb i j = A) (hB : inB ka kb i j = B) (ha : oa = if A then some i else none) (hb : ob = if B then some j else none) (hi' : i' = if A then i + 1 else i) (hj' : j' = if B then j + 1 else j)
    (hm : (ps.drop k).map en = (sdN ka kb f i j).map (fun x => (x.1.map CA, x.2.map CB))) : ∃ p f', ps.take k ++ [p] = ps.take (k + 1) ∧ en p = (oa.map CA, ob.map CB) ∧ (ps.drop (k + 1)).map en = (sdN ka kb f' i' j').map (fun x => (x.1.map CA, x.2.map CB)) ∧ f = f' + 1 ∧ (ps.take k).length < ps.length := by
  obtain ⟨f', hf', hs⟩ := sdN_step ka kb f i j oa ob i' j' h hf A B hA hB ha hb hi' hj'
  rw [hs, List.map_cons] at hm
  cases hd : ps.drop k with
  | nil => rw [hd] at hm; cases hm
  | cons p r =>
    rw [hd, List.map_cons] at hm
    injection hm with h1 h2
    have hk : k < ps.length := by
      rcases Nat.lt_or_ge k ps.length with h | h
      · exact h
      · rw [List.drop_of_length_le h] at hd
        cases hd
    have hp : ps[k]? = some p := by rw [← List.head?_drop, hd]; rfl
    have hr : ps.drop (k + 1) = r := by rw [← List.tail_drop, hd]; rfl
    exact ⟨p, f', by rw [List.take_add_one, hp]; rfl, h1, by rw [hr]; exact h2, hf', by rw [List.length_take]; omega⟩
end Go.Proofs.Ytjhnbopejnpbeaa

/-
  The walk of the document's token (layer 16); conditions: a text of at most 8192 bytes.
-/
import Derived.Test.YtnflbgejjgjpcaaDoorLxR3
import Derived.Test.YtnflbgejjgjpcaaDoorLxF
import Derived.Deep.RegionHeld3
import Derived.BigRegion
namespace Go.Proofs.YtnflbgejjgjpcaaDoor
open Go.RowKit
set_option linter.unusedVariables false
set_option linter.unusedSimpArgs false

/-- what token answers, at a place -/
def tokV (a : Nat) : Except Nat (Tk × Nat) → Value
  | .error e => .tuple #[.agg #[.int .i64 0, .string ⟨#[]⟩, .int .i64 0, .int .i64 0], .int .i64 0, .int .i64 (e : Int)]
  | .ok (t, n) => .tuple #[.agg #[.int .i64 (t.k : Int), .string (bA t.t), .int .i64 (t.n : Int), .int .i64 (a : Int)], .int .i64 ((a + n : Nat) : Int), .int .i64 0]

/-- the two boxes of a call: the answer's, the token's -/
structure Bx (w u : World) (g : Nat) (c0 c1 c2 c3 : Value) : Prop where
  ans : u.heap[g]? = some (.cells #[.int .i64 0, .string ⟨#[]⟩, .int .i64 0, .int .i64 0] 29 (0, 0))
  tok : u.heap[g + 1]? = some (.cells #[c0, c1, c2, c3] 29 (0, 0))
  low : w.heap.size = g
  below : Below g w u

theorem Bx.later {w u v : World} {g : Nat} {c0 c1 c2 c3 : Value} (h : Bx w u g c0 c1 c2 c3) (hb : Below u.heap.size u v) : Bx w v g c0 c1 c2 c3 :=
  ⟨(hb.block g (Array.getElem?_eq_some_iff.1 h.ans).1).trans h.ans, (hb.block (g + 1) (Array.getElem?_eq_some_iff.1 h.tok).1).trans h.tok, h.low, h.below.trans (hb.mono (by have := h.below.size; have := h.low; omega))⟩

theorem Bx.set0 {w u : World} {g : Nat} {c0 c1 c2 c3 : Value} (h : Bx w u g c0 c1 c2 c3) (x : Value) : Bx w (u.setCell ⟨g + 1, 0, none⟩ x) g x c1 c2 c3 :=
  ⟨by rw [heap_setCell_other _ _ _ _ (show g ≠ g + 1 by omega)]; exact h.ans, by rw [heap_setCell_same u (g + 1) 0 _ _ x h.tok]; rfl, h.low, h.below.setCell (p := ⟨g + 1, 0, none⟩) (by show g ≤ g + 1; omega) x⟩
theorem Bx.set1 {w u : World} {g : Nat} {c0 c1 c2 c3 : Value} (h : Bx w u g c0 c1 c2 c3) (x : Value) : Bx w (u.setCell ⟨g + 1, 1, none⟩ x) g c0 x c2 c3 :=
  ⟨by rw [heap_setCell_other _ _ _ _ (show g ≠ g + 1 by omega)]; exact h.ans, by rw [heap_setCell_same u (g + 1) 1 _ _ x h.tok]; rfl, h.low, h.below.setCell (p := ⟨g + 1, 1, none⟩) (by show g ≤ g + 1; omega) x⟩
theorem Bx.set2 {w u : World} {g : Nat} {c0 c1 c2 c3 : Value} (h : Bx w u g c0 c1 c2 c3) (x : Value) : Bx w (u.setCell ⟨g + 1, 2, none⟩ x) g c0 c1 x c3 :=
  ⟨by rw [heap_setCell_other _ _ _ _ (show g ≠ g + 1 by omega)]; exact h.ans, by rw [heap_setCell_same u (g + 1) 2 _ _ x h.tok]; rfl, h.low, h.below.setCell (p := ⟨g + 1, 2, none⟩) (by show g ≤ g + 1; omega) x⟩
theorem Bx.frz {w u : World} {g : Nat} {c0 c1 c2 c3 : Value} (h : Bx w u g c0 c1 c2 c3) (i : Nat) : u.frozen? ⟨g + 1, i, none⟩ = false := frozen_of_row u (g + 1) i _ _ h.tok
theorem Bx.lt {w u : World} {g : Nat} {c0 c1 c2 c3 : Value} (h : Bx w u g c0 c1 c2 c3) : g + 1 < u.heap.size := (Array.getElem?_eq_some_iff.1 h.tok).1
theorem Bx.cells {w u : World} {g : Nat} {c0 c1 c2 c3 : Value} (h : Bx w u g c0 c1 c2 c3) : u.cell? ⟨g + 1, 0, none⟩ = some c0 ∧ u.cell? ⟨g + 1, 1, none⟩ = some c1 ∧ u.cell? ⟨g + 1, 2, none⟩ = some c2 ∧ u.cell? ⟨g + 1, 3, none⟩ = some c3 := row_cell4 h.tok

theorem bx_start (w : World) (a : Nat) : Bx w ((w.alloc (.cells #[.int .i64 0, .string ⟨#[]⟩, .int .i64 0, .int .i64 0] 29)).alloc (.cells #[.int .i64 0, .string ⟨#[]⟩, .int .i64 0, .int .i64 (a : Int)] 29)) w.heap.size (.int .i64 0) (.string ⟨#[]⟩) (.int .i64 0) (.int .i64 (a : Int)) := by
  refine ⟨?_, ?_, rfl, ((Below.refl _ _).alloc (Nat.le_refl _) _).alloc (by simp) _⟩
  · rw [heap_alloc_old _ _ (by simp)]
    exact heap_alloc_new w _
  · have := heap_alloc_new (w.alloc (.cells #[.int .i64 0, .string ⟨#[]⟩, .int .i64 0, .int .i64 0] 29)) (.cells #[.int .i64 0, .string ⟨#[]⟩, .int .i64 0, .int .i64 (a : Int)] 29)
    rwa [show (w.alloc (.cells #[.int .i64 0, .string ⟨#[]⟩, .int .i64 0, .int .i64 0] 29)).heap.size = w.heap.size + 1 by simp] at this


theorem four_set (w : World) (g : Nat) (T : TypeId) (c0 c1 c2 c3 x0 x1 x2 x3 : Value) (h : w.heap[g]? = some (.cells #[c0, c1, c2, c3] T (0, 0))) :
    ((((w.setCell ⟨g, 0, none⟩ x0).setCell ⟨g, 1, none⟩ x1).setCell ⟨g, 2, none⟩ x2).setCell ⟨g, 3, none⟩ x3).heap[g]? = some (.cells #[x0, x1, x2, x3] T (0, 0)) := by
  have h1 := heap_setCell_same w g 0 _ T x0 h
  have h2 := heap_setCell_same _ g 1 _ T x1 h1
  have h3 := heap_setCell_same _ g 2 _ T x2 h2
  have h4 := heap_setCell_same _ g 3 _ T x3 h3
  rw [h4]
  rfl

theorem keepD {v w1 w2 : World} {P : World → Prop} (H : Hid (∀ w', Below v.heap.size v w' → P w')) (h : Below v.heap.size v w1) (hb : Below w1.heap.size w1 w2) : Below v.heap.size v w2 ∧ P w2 :=
  ⟨h.trans (hb.mono h.size), unhide H _ (h.trans (hb.mono h.size))⟩

end Go.Proofs.YtnflbgejjgjpcaaDoor

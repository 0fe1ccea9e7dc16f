/-
  Two rows of keys side by side: which items of each stand under each key, as indices; how entries' cells lie; no conditions.
-/
import Derived.Test.YtlmgiimgmjbkeaaA29
import Derived.RangeFuncBox
import Derived.RangeFuncLeaves
import Derived.RangeFuncNested
import Derived.RangeFuncBound
import Derived.RangeFuncCalls
import Derived.Shelf.Abstract
import Derived.Shelf.RegionOpen
import Derived.OwnWalkIn
import Derived.TacticsInMore
import Derived.LoopNIn
import Derived.LoopIn
set_option linter.unusedVariables false
set_option linter.unusedSimpArgs false
namespace Go.Proofs.Ytlmgiimgmjbkeaa
open Go.RowKit Go.Shelf
set_option linter.unusedVariables false
set_option linter.unusedSimpArgs false

/-- an entry's cells -/
abbrev Ce := ByteArray × Int × Int × ByteArray × Option Addr × Nat × Nat × Option Addr × Nat × Nat

def ceL : Ce → List Value
  | (k, t0, t1, t2, t3, t4, t5, t6, t7, t8) => [.string k, .int .i64 t0, .int .i64 t1, .string t2, .slice t3 t4 t5, .slice t6 t7 t8]

/-- a side of entries: an entry or none -/
def sdE : Option Ce → List Value
  | some (k, t0, t1, t2, t3, t4, t5, t6, t7, t8) => [.string k, .int .i64 t0, .int .i64 t1, .string t2, .slice t3 t4 t5, .slice t6 t7 t8, .bool true]
  | none => [.string ⟨#[]⟩, .int .i64 0, .int .i64 0, .string ⟨#[]⟩, .slice none 0 0, .slice none 0 0, .bool false]

def inA (ka kb : List ByteArray) (i j : Nat) : Bool := match ka[i]?, kb[j]? with
  | some x, some y => !(Op.bytesLess y.toList x.toList)
  | some _, none => true
  | none, _ => false

def inB (ka kb : List ByteArray) (i j : Nat) : Bool := match ka[i]?, kb[j]? with
  | some x, some y => !(Op.bytesLess x.toList y.toList)
  | none, some _ => true
  | _, none => false

/-- the items of two rows, key by key -/
def sdN (ka kb : List ByteArray) : Nat → Nat → Nat → List (Option Nat × Option Nat)
  | 0, _, _ => []
  | f + 1, i, j => if i < ka.length ∨ j < kb.length then (if inA ka kb i j then some i else none, if inB ka kb i j then some j else none) :: sdN ka kb f (if inA ka kb i j then i + 1 else i) (if inB ka kb i j then j + 1 else j) else []

theorem sdN_end (ka kb : List ByteArray) (f i j : Nat) (hi : ka.length ≤ i) (hj : kb.length ≤ j) : sdN ka kb f i j = [] := by
  cases f with
  | zero => rfl
  | succ f => unfold sdN; rw [if_neg (by omega)]

theorem sdN_step (ka kb : List ByteArray) (f i j : Nat) (oa ob : Option Nat) (i' j' : Nat) (h : i < ka.length ∨ j < kb.length) (hf : (ka.length - i) + (kb.length - j) ≤ f) (A B : Bool) (hA : inA ka kb i j = A) (hB : inB ka kb i j = B) (ha : oa = if A then some i else none) (hb : ob = if B then some j else none) (hi' : i' = if A then i + 1 else i) (hj' : j' = if B then j + 1 else j) : ∃ f', f = f' + 1 ∧ sdN ka kb f i j = (oa, ob) :: sdN ka kb f' i' j' := by
  obtain ⟨f', rfl⟩ : ∃ f', f = f' + 1 := ⟨f - 1, by omega⟩
  refine ⟨f', rfl, ?_⟩
  rw [sdN, if_pos h, hA, hB, ha, hb, hi', hj']

/-- entries' cells lie in memory -/
def RwE (w : World) (N : Nat → Prop) (ka : List ByteArray) (al : Option Addr) (C : Nat → Ce) : Prop := ∀ i k, ka[i]? = some k → (C i).1 = k ∧ ∃ a, al = some a ∧ N a.block ∧ a.block < w.heap.size ∧ ∀ j v, (ceL (C i))[j]? = some v → w.cell? ((a.add (i * 6)).add j) = some v

theorem RwE.to {w w' : World} {N : Nat → Prop} {ka : List ByteArray} {al : Option Addr} {C : Nat → Ce} (h : RwE w N ka al C) (hk : ∀ b, N b → w'.heap[b]? = w.heap[b]?) : RwE w' N ka al C := by
  intro i k hi
  obtain ⟨h1, a, h2, h3, h4, h5⟩ := h i k hi
  have hb := hk _ h3
  refine ⟨h1, a, h2, h3, ?_, fun j v hv => ?_⟩
  · obtain ⟨o, ho⟩ : ∃ o, w.heap[a.block]? = some o := ⟨_, Array.getElem?_eq_getElem h4⟩
    exact (Array.getElem?_eq_some_iff.1 (hb.trans ho)).1
  · exact (World.cell?_of_block (by rw [block_add, block_add]; exact hb)).trans (h5 j v hv)

/-- what the body of a range over two rows leaves as it was: the blocks of N, and what lies in boxes of these types -/
structure KeepS (N : Nat → Prop) (Ts : TypeId → Prop) (W W' : World) : Prop where
  blk : ∀ b, N b → W'.heap[b]? = W.heap[b]?
  box : ∀ (b : Nat) (c : Array Value) (T : TypeId) (f : Nat × Nat), Ts T → W.heap[b]? = some (.cells c T f) → W'.heap[b]? = some (.cells c T f)

theorem KeepS.refl (N : Nat → Prop) (Ts : TypeId → Prop) (W : World) : KeepS N Ts W W := ⟨fun _ _ => rfl, fun _ _ _ _ _ h => h⟩
theorem KeepS.trans {N : Nat → Prop} {Ts : TypeId → Prop} {A B C : World} (h : KeepS N Ts A B) (h' : KeepS N Ts B C) : KeepS N Ts A C := ⟨fun b hb => (h'.blk b hb).trans (h.blk b hb), fun b c T f hT hb => h'.box b c T f hT (h.box b c T f hT hb)⟩

/-- a box of seven cells, written over -/
theorem set7 {w : World} {q : Nat} {z0 z1 z2 z3 z4 z5 z6 : Value} {T : TypeId} (h : w.heap[q]? = some (.cells #[z0, z1, z2, z3, z4, z5, z6] T (0, 0))) (y0 y1 y2 y3 y4 y5 y6 : Value) :
    (((((((w.setCell ⟨q, 0, none⟩ y0).setCell ⟨q, 1, none⟩ y1).setCell ⟨q, 2, none⟩ y2).setCell ⟨q, 3, none⟩ y3).setCell ⟨q, 4, none⟩ y4).setCell ⟨q, 5, none⟩ y5).setCell ⟨q, 6, none⟩ y6).heap[q]? = some (.cells #[y0, y1, y2, y3, y4, y5, y6] T (0, 0)) := by
  have e0 := heap_setCell_same w q 0 _ T y0 h
  simp only [List.setIfInBounds_toArray, List.set_cons_zero, List.set_cons_succ] at e0
  have e1 := heap_setCell_same _ q 1 _ T y1 e0
  simp only [List.setIfInBounds_toArray, List.set_cons_zero, List.set_cons_succ] at e1
  have e2 := heap_setCell_same _ q 2 _ T y2 e1
  simp only [List.setIfInBounds_toArray, List.set_cons_zero, List.set_cons_succ] at e2
  have e3 := heap_setCell_same _ q 3 _ T y3 e2
  simp only [List.setIfInBounds_toArray, List.set_cons_zero, List.set_cons_succ] at e3
  have e4 := heap_setCell_same _ q 4 _ T y4 e3
  simp only [List.setIfInBounds_toArray, List.set_cons_zero, List.set_cons_succ] at e4
  have e5 := heap_setCell_same _ q 5 _ T y5 e4
  simp only [List.setIfInBounds_toArray, List.set_cons_zero, List.set_cons_succ] at e5
  have e6 := heap_setCell_same _ q 6 _ T y6 e5
  simp only [List.setIfInBounds_toArray, List.set_cons_zero, List.set_cons_succ] at e6
  exact e6

theorem set7_below {w w0 : World} {B q : Nat} (h : Below B w0 w) (hq : B ≤ q) (y0 y1 y2 y3 y4 y5 y6 : Value) :
    Below B w0 (((((((w.setCell ⟨q, 0, none⟩ y0).setCell ⟨q, 1, none⟩ y1).setCell ⟨q, 2, none⟩ y2).setCell ⟨q, 3, none⟩ y3).setCell ⟨q, 4, none⟩ y4).setCell ⟨q, 5, none⟩ y5).setCell ⟨q, 6, none⟩ y6) :=
  ((((((h.setCell (p := ⟨q, 0, none⟩) hq _).setCell (p := ⟨q, 1, none⟩) hq _).setCell (p := ⟨q, 2, none⟩) hq _).setCell (p := ⟨q, 3, none⟩) hq _).setCell (p := ⟨q, 4, none⟩) hq _).setCell (p := ⟨q, 5, none⟩) hq _).setCell (p := ⟨q, 6, none⟩) hq _

theorem set7_other {w : World} {q b : Nat} (hb : b ≠ q) (y0 y1 y2 y3 y4 y5 y6 : Value) :
    (((((((w.setCell ⟨q, 0, none⟩ y0).setCell ⟨q, 1, none⟩ y1).setCell ⟨q, 2, none⟩ y2).setCell ⟨q, 3, none⟩ y3).setCell ⟨q, 4, none⟩ y4).setCell ⟨q, 5, none⟩ y5).setCell ⟨q, 6, none⟩ y6).heap[b]? = w.heap[b]? := by
  rw [heap_setCell_other _ _ _ _ hb, heap_setCell_other _ _ _ _ hb, heap_setCell_other _ _ _ _ hb, heap_setCell_other _ _ _ _ hb, heap_setCell_other _ _ _ _ hb, heap_setCell_other _ _ _ _ hb, heap_setCell_other _ _ _ _ hb]

/-- the seven cells of a box -/
theorem row_cell7 {w : World} {g : Nat} {x0 x1 x2 x3 x4 x5 x6 : Value} {T : TypeId} (h : w.heap[g]? = some (.cells #[x0, x1, x2, x3, x4, x5, x6] T (0, 0))) :
    w.cell? ⟨g, 0, none⟩ = some x0 ∧ w.cell? ⟨g, 1, none⟩ = some x1 ∧ w.cell? ⟨g, 2, none⟩ = some x2 ∧ w.cell? ⟨g, 3, none⟩ = some x3 ∧ w.cell? ⟨g, 4, none⟩ = some x4 ∧ w.cell? ⟨g, 5, none⟩ = some x5 ∧ w.cell? ⟨g, 6, none⟩ = some x6 :=
  ⟨by rw [cell_of_row w g 0 _ _ (0, 0) h]; rfl, by rw [cell_of_row w g 1 _ _ (0, 0) h]; rfl, by rw [cell_of_row w g 2 _ _ (0, 0) h]; rfl, by rw [cell_of_row w g 3 _ _ (0, 0) h]; rfl, by rw [cell_of_row w g 4 _ _ (0, 0) h]; rfl, by rw [cell_of_row w g 5 _ _ (0, 0) h]; rfl, by rw [cell_of_row w g 6 _ _ (0, 0) h]; rfl⟩

theorem KeepS.of_below {N : Nat → Prop} {Ts : TypeId → Prop} {W W' : World} (h : Below W.heap.size W W') (hN : ∀ b, N b → b < W.heap.size) : KeepS N Ts W W' := ⟨fun b hb => h.block b (hN b hb), fun b c T f _ hb => (h.block b (Array.getElem?_eq_some_iff.1 hb).1).trans hb⟩

theorem KeepS.lt {N : Nat → Prop} {Ts : TypeId → Prop} {W W' : World} (h : KeepS N Ts W W') {b : Nat} (hb : N b) (hl : b < W.heap.size) : b < W'.heap.size := by
  obtain ⟨o, ho⟩ : ∃ o, W.heap[b]? = some o := ⟨_, Array.getElem?_eq_getElem hl⟩
  exact (Array.getElem?_eq_some_iff.1 ((h.blk b hb).trans ho)).1

theorem sd_take {α : Type} {en : α → Option Ce × Option Ce} {ps : List α} {ka kb : List ByteArray} {CA CB : Nat → Ce} {k f i j : Nat} (oa ob : Option Nat) (i' j' : Nat) (h : i < ka.length ∨ j < kb.length) (hf : (ka.length - i) + (kb.length - j) ≤ f) (A B : Bool) (hA : inA ka kb i j = A) (hB : inB ka kb i j = B) (ha : oa = if A then some i else none) (hb : ob = if B then some j else none) (hi' : i' = if A then i + 1 else i) (hj' : j' = if B then j + 1 else j)
    (hm : (ps.drop k).map en = (sdN ka kb f i j).map (fun x => (x.1.map CA, x.2.map CB))) : ∃ p f', ps.take k ++ [p] = ps.take (k + 1) ∧ en p = (oa.map CA, ob.map CB) ∧ (ps.drop (k + 1)).map en = (sdN ka kb f' i' j').map (fun x => (x.1.map CA, x.2.map CB)) ∧ f = f' + 1 ∧ (ps.take k).length < ps.length := by
  obtain ⟨f', hf', hs⟩ := sdN_step ka kb f i j oa ob i' j' h hf A B hA hB ha hb hi' hj'
  rw [hs, List.map_cons] at hm
  cases hd : ps.drop k with
  | nil => rw [hd] at hm; cases hm
  | cons p r =>
    rw [hd, List.map_cons] at hm
    injection hm with h1 h2
    have hk : k < ps.length := by
      rcases Nat.lt_or_ge k ps.length with h | h
      · exact h
      · rw [List.drop_of_length_le h] at hd
        cases hd
    have hp : ps[k]? = some p := by rw [← List.head?_drop, hd]; rfl
    have hr : ps.drop (k + 1) = r := by rw [← List.tail_drop, hd]; rfl
    exact ⟨p, f', by rw [List.take_add_one, hp]; rfl, h1, by rw [hr]; exact h2, hf', by rw [List.length_take]; omega⟩

theorem inA_two {ka kb : List ByteArray} {i j : Nat} {x y : ByteArray} (hx : ka[i]? = some x) (hy : kb[j]? = some y) : inA ka kb i j = !(Op.bytesLess y.toList x.toList) ∧ inB ka kb i j = !(Op.bytesLess x.toList y.toList) := by
  unfold inA inB
  rw [hx, hy]
  exact ⟨rfl, rfl⟩

theorem inA_one {ka kb : List ByteArray} {i j : Nat} {x : ByteArray} (hx : ka[i]? = some x) (hy : kb[j]? = none) : inA ka kb i j = true ∧ inB ka kb i j = false := by
  unfold inA inB
  rw [hx, hy]
  exact ⟨rfl, rfl⟩

theorem inB_one {ka kb : List ByteArray} {i j : Nat} {y : ByteArray} (hx : ka[i]? = none) (hy : kb[j]? = some y) : inA ka kb i j = false ∧ inB ka kb i j = true := by
  unfold inA inB
  rw [hx, hy]
  exact ⟨rfl, rfl⟩
end Go.Proofs.Ytlmgiimgmjbkeaa

/-
  Two rows side by side as lists; the order of keys; no conditions.
  Changes' cells, two rows side by side of entries and changes; no conditions.
-/
import Derived.Test.YtjhnbopejnpbeaaA37
import Derived.Test.YtjhnbopejnpbeaaA19
import Derived.Test.YtjhnbopejnpbeaaA34
set_option linter.unusedVariables false
set_option linter.unusedSimpArgs false
namespace Go.Proofs.Ytjhnbopejnpbeaa
open Go.RowKit
set_option linter.unusedVariables false
set_option linter.unusedSimpArgs false

/-- does a key stand ahead of another? -/
def ltK (a b : ByteArray) : Bool := Op.bytesLess a.toList b.toList

theorem blo_trM : ∀ (a b c : List UInt8), Op.bytesLess a b = true → Op.bytesLess b c = true → Op.bytesLess a c = true
  | [], b, [], _, h => by cases b <;> simp [Op.bytesLess] at h
  | [], _, c :: z, _, _ => by simp [Op.bytesLess]
  | a :: x, [], _, h, _ => by simp [Op.bytesLess] at h
  | a :: x, b :: y, [], _, h => by simp [Op.bytesLess] at h
  | a :: x, b :: y, c :: z, h1, h2 => by
    simp only [Op.bytesLess, Bool.or_eq_true, Bool.and_eq_true, decide_eq_true_eq, beq_iff_eq] at h1 h2 ⊢
    rcases h1 with h1 | ⟨rfl, h1⟩
    · rcases h2 with h2 | ⟨rfl, h2⟩
      · exact .inl (UInt8.lt_trans h1 h2)
      · exact .inl h1
    · rcases h2 with h2 | ⟨rfl, h2⟩
      · exact .inl h2
      · exact .inr ⟨rfl, blo_trM x y z h1 h2⟩

theorem ltK_tr {a b c : ByteArray} (h : ltK a b = true) (h' : ltK b c = true) : ltK a c = true := blo_trM _ _ _ h h'
theorem ltK_irr (a : ByteArray) : ltK a a = false := bl_irr _
theorem ltK_asym {a b : ByteArray} (h : ltK a b = true) : ltK b a = false := by
  cases h2 : ltK b a with
  | false => rfl
  | true => have := ltK_tr h h2; rw [ltK_irr] at this; cases this
theorem ltK_same {a b : ByteArray} (h : ltK a b = false) (h' : ltK b a = false) : a = b := by
  have := bl_not a.toList b.toList
  unfold ltK at h h'
  rw [h, h', Bool.false_or] at this
  cases he : (b.toList == a.toList) with
  | false => rw [he] at this; cases this
  | true => exact (toList_injZ (eq_of_beq he)).symm

section
variable {α β : Type} (ka : α → ByteArray) (kb : β → ByteArray)

/-- the items of two rows, key by key -/
def mg : Nat → List α → List β → List (Option α × Option β)
  | 0, _, _ => []
  | _ + 1, [], [] => []
  | f + 1, x :: r, [] => (some x, none) :: mg f r []
  | f + 1, [], y :: s => (none, some y) :: mg f [] s
  | f + 1, x :: r, y :: s => if ltK (kb y) (ka x) then (none, some y) :: mg f (x :: r) s else if ltK (ka x) (kb y) then (some x, none) :: mg f r (y :: s) else (some x, some y) :: mg f r s

theorem sdN_mg (es : List α) (fs : List β) : ∀ (f i j : Nat), (sdN (es.map ka) (fs.map kb) f i j).map (fun x => (x.1.bind (fun a => es[a]?), x.2.bind (fun b => fs[b]?))) = mg ka kb f (es.drop i) (fs.drop j)
  | 0, i, j => rfl
  | f + 1, i, j => by
    rcases Nat.lt_or_ge i es.length with hi | hi
    · have hx : (es.map ka)[i]? = some (ka es[i]) := by rw [List.getElem?_map, List.getElem?_eq_getElem hi]; rfl
      rcases Nat.lt_or_ge j fs.length with hj | hj
      · have hy : (fs.map kb)[j]? = some (kb fs[j]) := by rw [List.getElem?_map, List.getElem?_eq_getElem hj]; rfl
        obtain ⟨q1, q2⟩ := inA_two hx hy
        have ih1 := sdN_mg es fs f i (j + 1)
        have ih2 := sdN_mg es fs f (i + 1) j
        have ih3 := sdN_mg es fs f (i + 1) (j + 1)
        unfold sdN
        rw [if_pos (by simp; omega), q1, q2]
        rw [List.drop_eq_getElem_cons hi] at ih1
        rw [List.drop_eq_getElem_cons hj] at ih2
        rw [List.drop_eq_getElem_cons hi, List.drop_eq_getElem_cons hj]
        unfold mg
        cases h1 : ltK (kb fs[j]) (ka es[i]) with
        | true =>
          have h2 := ltK_asym h1
          unfold ltK at h1 h2
          rw [h1, h2]
          simp only [Bool.not_true, Bool.not_false, if_true, List.map_cons, Option.bind_some, Option.bind_none, List.getElem?_eq_getElem hj, Bool.false_eq_true, if_false]
          rw [ih1]
        | false =>
          cases h2 : ltK (ka es[i]) (kb fs[j]) with
          | true =>
            unfold ltK at h1 h2
            rw [h1, h2]
            simp only [Bool.not_true, Bool.not_false, if_true, List.map_cons, Option.bind_some, Option.bind_none, List.getElem?_eq_getElem hi, Bool.false_eq_true, if_false]
            rw [ih2]
          | false =>
            unfold ltK at h1 h2
            rw [h1, h2]
            simp only [Bool.not_true, Bool.not_false, if_true, List.map_cons, Option.bind_some, Option.bind_none, List.getElem?_eq_getElem hi, List.getElem?_eq_getElem hj, Bool.false_eq_true, if_false]
            rw [ih3]
      · have hy : (fs.map kb)[j]? = none := List.getElem?_eq_none (by simpa using hj)
        obtain ⟨q1, q2⟩ := inA_one hx hy
        have ih2 := sdN_mg es fs f (i + 1) j
        unfold sdN
        rw [if_pos (by simp; omega), q1, q2, List.drop_eq_getElem_cons hi]
        rw [List.drop_of_length_le hj] at ih2 ⊢
        unfold mg
        simp only [if_true, List.map_cons, Option.bind_some, Option.bind_none, List.getElem?_eq_getElem hi, Bool.false_eq_true, if_false]
        rw [ih2]
    · have hx : (es.map ka)[i]? = none := List.getElem?_eq_none (by simpa using hi)
      rcases Nat.lt_or_ge j fs.length with hj | hj
      · have hy : (fs.map kb)[j]? = some (kb fs[j]) := by rw [List.getElem?_map, List.getElem?_eq_getElem hj]; rfl
        obtain ⟨q1, q2⟩ := inB_one hx hy
        have ih1 := sdN_mg es fs f i (j + 1)
        unfold sdN
        rw [if_pos (by simp; omega), q1, q2, List.drop_eq_getElem_cons hj]
        rw [List.drop_of_length_le hi] at ih1 ⊢
        unfold mg
        simp only [if_true, List.map_cons, Option.bind_some, Option.bind_none, List.getElem?_eq_getElem hj, Bool.false_eq_true, if_false]
        rw [ih1]
      · rw [sdN_end _ _ _ _ _ (by simpa using hi) (by simpa using hj), List.drop_of_length_le hi, List.drop_of_length_le hj]
        rfl
end
end Go.Proofs.Ytjhnbopejnpbeaa

namespace Go.Proofs.Ytjhnbopejnpbeaa
open Go.RowKit Go.Shelf
set_option linter.unusedVariables false
set_option linter.unusedSimpArgs false

/-- a change's cells -/
abbrev Cc := ByteArray × Bool × Int × Int × ByteArray × Option Addr × Nat × Nat × Option Addr × Nat × Nat

def ccL : Cc → List Value
  | (k, g, t0, t1, t2, t3, t4, t5, t6, t7, t8) => [.string k, .bool g, .int .i64 t0, .int .i64 t1, .string t2, .slice t3 t4 t5, .slice t6 t7 t8]

/-- a side of changes: a change or none -/
def sdC : Option Cc → List Value
  | some (k, g, t0, t1, t2, t3, t4, t5, t6, t7, t8) => [.string k, .bool g, .int .i64 t0, .int .i64 t1, .string t2, .slice t3 t4 t5, .slice t6 t7 t8, .bool true]
  | none => [.string ⟨#[]⟩, .bool false, .int .i64 0, .int .i64 0, .string ⟨#[]⟩, .slice none 0 0, .slice none 0 0, .bool false]

/-- changes' cells lie in memory -/
def RwC (w : World) (N : Nat → Prop) (ka : List ByteArray) (al : Option Addr) (C : Nat → Cc) : Prop := ∀ i k, ka[i]? = some k → (C i).1 = k ∧ ∃ a, al = some a ∧ N a.block ∧ a.block < w.heap.size ∧ ∀ j v, (ccL (C i))[j]? = some v → w.cell? ((a.add (i * 7)).add j) = some v

theorem RwC.to {w w' : World} {N : Nat → Prop} {ka : List ByteArray} {al : Option Addr} {C : Nat → Cc} (h : RwC w N ka al C) (hk : ∀ b, N b → w'.heap[b]? = w.heap[b]?) : RwC w' N ka al C := by
  intro i k hi
  obtain ⟨h1, a, h2, h3, h4, h5⟩ := h i k hi
  have hb := hk _ h3
  refine ⟨h1, a, h2, h3, ?_, fun j v hv => ?_⟩
  · obtain ⟨o, ho⟩ : ∃ o, w.heap[a.block]? = some o := ⟨_, Array.getElem?_eq_getElem h4⟩
    exact (Array.getElem?_eq_some_iff.1 (hb.trans ho)).1
  · exact (World.cell?_of_block (by rw [block_add, block_add]; exact hb)).trans (h5 j v hv)

theorem RwC.weak {w : World} {N N' : Nat → Prop} {ka : List ByteArray} {al : Option Addr} {C : Nat → Cc} (h : RwC w N ka al C) (hN : ∀ b, N b → N' b) : RwC w N' ka al C := fun i k hi => by
  obtain ⟨h1, a, h2, h3, h4, h5⟩ := h i k hi
  exact ⟨h1, a, h2, hN _ h3, h4, h5⟩

theorem set8 {w : World} {q : Nat} {z0 z1 z2 z3 z4 z5 z6 z7 : Value} {T : TypeId} (h : w.heap[q]? = some (.cells #[z0, z1, z2, z3, z4, z5, z6, z7] T (0, 0))) (y0 y1 y2 y3 y4 y5 y6 y7 : Value) :
    ((((((((w.setCell ⟨q, 0, none⟩ y0).setCell ⟨q, 1, none⟩ y1).setCell ⟨q, 2, none⟩ y2).setCell ⟨q, 3, none⟩ y3).setCell ⟨q, 4, none⟩ y4).setCell ⟨q, 5, none⟩ y5).setCell ⟨q, 6, none⟩ y6).setCell ⟨q, 7, none⟩ y7).heap[q]? = some (.cells #[y0, y1, y2, y3, y4, y5, y6, y7] T (0, 0)) := by
  have e0 := heap_setCell_same w q 0 _ T y0 h
  simp only [List.setIfInBounds_toArray, List.set_cons_zero, List.set_cons_succ] at e0
  have e1 := heap_setCell_same _ q 1 _ T y1 e0
  simp only [List.setIfInBounds_toArray, List.set_cons_zero, List.set_cons_succ] at e1
  have e2 := heap_setCell_same _ q 2 _ T y2 e1
  simp only [List.setIfInBounds_toArray, List.set_cons_zero, List.set_cons_succ] at e2
  have e3 := heap_setCell_same _ q 3 _ T y3 e2
  simp only [List.setIfInBounds_toArray, List.set_cons_zero, List.set_cons_succ] at e3
  have e4 := heap_setCell_same _ q 4 _ T y4 e3
  simp only [List.setIfInBounds_toArray, List.set_cons_zero, List.set_cons_succ] at e4
  have e5 := heap_setCell_same _ q 5 _ T y5 e4
  simp only [List.setIfInBounds_toArray, List.set_cons_zero, List.set_cons_succ] at e5
  have e6 := heap_setCell_same _ q 6 _ T y6 e5
  simp only [List.setIfInBounds_toArray, List.set_cons_zero, List.set_cons_succ] at e6
  have e7 := heap_setCell_same _ q 7 _ T y7 e6
  simp only [List.setIfInBounds_toArray, List.set_cons_zero, List.set_cons_succ] at e7
  exact e7

theorem set8_below {w w0 : World} {B q : Nat} (h : Below B w0 w) (hq : B ≤ q) (y0 y1 y2 y3 y4 y5 y6 y7 : Value) :
    Below B w0 ((((((((w.setCell ⟨q, 0, none⟩ y0).setCell ⟨q, 1, none⟩ y1).setCell ⟨q, 2, none⟩ y2).setCell ⟨q, 3, none⟩ y3).setCell ⟨q, 4, none⟩ y4).setCell ⟨q, 5, none⟩ y5).setCell ⟨q, 6, none⟩ y6).setCell ⟨q, 7, none⟩ y7) :=
  ((((((((h.setCell (p := ⟨q, 0, none⟩) hq _).setCell (p := ⟨q, 1, none⟩) hq _).setCell (p := ⟨q, 2, none⟩) hq _).setCell (p := ⟨q, 3, none⟩) hq _).setCell (p := ⟨q, 4, none⟩) hq _).setCell (p := ⟨q, 5, none⟩) hq _).setCell (p := ⟨q, 6, none⟩) hq _).setCell (p := ⟨q, 7, none⟩) hq _)

theorem set8_other {w : World} {q b : Nat} (hb : b ≠ q) (y0 y1 y2 y3 y4 y5 y6 y7 : Value) :
    ((((((((w.setCell ⟨q, 0, none⟩ y0).setCell ⟨q, 1, none⟩ y1).setCell ⟨q, 2, none⟩ y2).setCell ⟨q, 3, none⟩ y3).setCell ⟨q, 4, none⟩ y4).setCell ⟨q, 5, none⟩ y5).setCell ⟨q, 6, none⟩ y6).setCell ⟨q, 7, none⟩ y7).heap[b]? = w.heap[b]? := by
  rw [heap_setCell_other _ _ _ _ hb, heap_setCell_other _ _ _ _ hb, heap_setCell_other _ _ _ _ hb, heap_setCell_other _ _ _ _ hb, heap_setCell_other _ _ _ _ hb, heap_setCell_other _ _ _ _ hb, heap_setCell_other _ _ _ _ hb, heap_setCell_other _ _ _ _ hb]

theorem row_cell8 {w : World} {g : Nat} {x0 x1 x2 x3 x4 x5 x6 x7 : Value} {T : TypeId} (h : w.heap[g]? = some (.cells #[x0, x1, x2, x3, x4, x5, x6, x7] T (0, 0))) :
    w.cell? ⟨g, 0, none⟩ = some x0 ∧ w.cell? ⟨g, 1, none⟩ = some x1 ∧ w.cell? ⟨g, 2, none⟩ = some x2 ∧ w.cell? ⟨g, 3, none⟩ = some x3 ∧ w.cell? ⟨g, 4, none⟩ = some x4 ∧ w.cell? ⟨g, 5, none⟩ = some x5 ∧ w.cell? ⟨g, 6, none⟩ = some x6 ∧ w.cell? ⟨g, 7, none⟩ = some x7 :=
  ⟨by rw [cell_of_row w g 0 _ _ (0, 0) h]; rfl, by rw [cell_of_row w g 1 _ _ (0, 0) h]; rfl, by rw [cell_of_row w g 2 _ _ (0, 0) h]; rfl, by rw [cell_of_row w g 3 _ _ (0, 0) h]; rfl, by rw [cell_of_row w g 4 _ _ (0, 0) h]; rfl, by rw [cell_of_row w g 5 _ _ (0, 0) h]; rfl, by rw [cell_of_row w g 6 _ _ (0, 0) h]; rfl, by rw [cell_of_row w g 7 _ _ (0, 0) h]; rfl⟩

set_option maxRecDepth 100000 in
theorem ckey_any (k : ByteArray) (g : Bool) (k0 n0 : Int) (s0 : ByteArray) (al ak : Option Addr) (ll cl lk ck : Nat) (w : World) :
    Calls Try.prog 33 #[.agg #[.string k, .bool g, .int .i64 k0, .int .i64 n0, .string s0, .slice al ll cl, .slice ak lk ck]] w fun e w' => e = .returned (.string k) ∧ Below w.heap.size w w' := by
  go_enter Try.func33, Try.ntmps33
  go_wp2_with fail
  go_ret
  exact ⟨rfl, (Below.refl _ _).alloc (Nat.le_refl _) _⟩

theorem sd_takeG {α β γ : Type} {en : α → Option β × Option γ} {ps : List α} {ka kb : List ByteArray} {CA : Nat → β} {CB : Nat → γ} {k f i j : Nat} (oa ob : Option Nat) (i' j' : Nat) (h : i < ka.length ∨ j < kb.length) (hf : (ka.length - i) + (kb.length - j) ≤ f) (A B : Bool) (hA : inA ka kb i j = A) (hB : inB ka kb i j = B) (ha : oa = if A then some i else none) (hb : ob = if B then some j else none) (hi' : i' = if A then i + 1 else i) (hj' : j' = if B then j + 1 else j)
    (hm : (ps.drop k).map en = (sdN ka kb f i j).map (fun x => (x.1.map CA, x.2.map CB))) : ∃ p f', ps.take k ++ [p] = ps.take (k + 1) ∧ en p = (oa.map CA, ob.map CB) ∧ (ps.drop (k + 1)).map en = (sdN ka kb f' i' j').map (fun x => (x.1.map CA, x.2.map CB)) ∧ f = f' + 1 ∧ (ps.take k).length < ps.length := by
  obtain ⟨f', hf', hs⟩ := sdN_step ka kb f i j oa ob i' j' h hf A B hA hB ha hb hi' hj'
  rw [hs, List.map_cons] at hm
  cases hd : ps.drop k with
  | nil => rw [hd] at hm; cases hm
  | cons p r =>
    rw [hd, List.map_cons] at hm
    injection hm with h1 h2
    have hk : k < ps.length := by
      rcases Nat.lt_or_ge k ps.length with h | h
      · exact h
      · rw [List.drop_of_length_le h] at hd
        cases hd
    have hp : ps[k]? = some p := by rw [← List.head?_drop, hd]; rfl
    have hr : ps.drop (k + 1) = r := by rw [← List.tail_drop, hd]; rfl
    exact ⟨p, f', by rw [List.take_add_one, hp]; rfl, h1, by rw [hr]; exact h2, hf', by rw [List.length_take]; omega⟩
end Go.Proofs.Ytjhnbopejnpbeaa

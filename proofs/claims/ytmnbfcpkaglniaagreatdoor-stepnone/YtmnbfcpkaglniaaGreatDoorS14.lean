/-
  A value that is being made: a variable with two lists of its own that grow by one; no conditions.
-/
import Derived.Test.YtmnbfcpkaglniaaGreatDoorS13
import Derived.Laws.OwnMore
set_option linter.unusedVariables false
set_option linter.unusedSimpArgs false
namespace Go.Proofs.YtmnbfcpkaglniaaGreatDoor
open Go.RowKit
/-- rows of five cells, one behind the other -/
def flat (V : Nat → List Value) : Nat → List Value
  | 0 => []
  | i + 1 => flat V i ++ V i
theorem flat_len (V : Nat → List Value) : ∀ i, (∀ j, j < i → (V j).length = 5) → (flat V i).length = i * 5
  | 0, _ => rfl
  | i + 1, h => by
    simp only [flat, List.length_append]
    rw [flat_len V i (fun j hj => h j (by omega)), h i (by omega)]
    omega
theorem flat_at (V : Nat → List Value) : ∀ i, (∀ j, j < i → (V j).length = 5) → ∀ j, j < i → ∀ c v, (V j)[c]? = some v → (flat V i)[j * 5 + c]? = some v
  | 0, _, j, hj, _, _, _ => by omega
  | i + 1, h, j, hj, c, v, hc => by
    have hl := flat_len V i (fun j hj => h j (by omega))
    have h5 : c < 5 := by
      have := (List.getElem?_eq_some_iff.1 hc).1
      rw [h j hj] at this
      exact this
    simp only [flat]
    by_cases hji : j < i
    · rw [List.getElem?_append_left (by rw [hl]; omega)]
      exact flat_at V i (fun j hj => h j (by omega)) j hji c v hc
    · have e : j = i := by omega
      subst e
      rw [List.getElem?_append_right (by rw [hl]; omega), hl, show j * 5 + c - j * 5 = c by omega]
      exact hc
theorem flat_congr (V V' : Nat → List Value) : ∀ i, (∀ j, j < i → V j = V' j) → flat V i = flat V' i
  | 0, _ => rfl
  | i + 1, h => by simp only [flat]; rw [flat_congr V V' i (fun j hj => h j (by omega)), h i (by omega)]
/-- another row at i -/
def setV (V : Nat → List Value) (i : Nat) (cs : List Value) : Nat → List Value := fun j => if j = i then cs else V j
theorem setV_same (V : Nat → List Value) (i : Nat) (cs : List Value) : setV V i cs i = cs := by simp [setV]
theorem setV_other (V : Nat → List Value) (i : Nat) (cs : List Value) {j : Nat} (h : j < i) : setV V i cs j = V j := by simp [setV]; intro e; omega
theorem flat_set (V : Nat → List Value) (i : Nat) (cs : List Value) : flat (setV V i cs) (i + 1) = flat V i ++ cs := by
  simp only [flat]
  rw [setV_same, flat_congr (setV V i cs) V i (fun j hj => setV_other V i cs hj)]
/-- where the elements' own lists may lie -/
def Free (base top : Nat) (Lv Kv : Value) : Nat → Prop := fun b => base ≤ b ∧ b < top ∧ some b ≠ Lv.ownBlock ∧ some b ≠ Kv.ownBlock
/-- a value that is being made, its first i elements and its first j keys -/
structure Mid (w : World) (base gb : Nat) (k n : Int) (s : ByteArray) (l : List Vl) (ks : List ByteArray) (Lv Kv : Value) (i j : Nat) (V : Nat → List Value) : Prop where
  box : w.heap[gb]? = some (.cells #[.int .i64 k, .int .i64 n, .string s, Lv, Kv] 29 (0, 0))
  below : gb < base
  size : base ≤ w.heap.size
  ownL : w.ownsRow base 29 5 Lv i (flat V i)
  ownK : w.ownsRow base 9 1 Kv j ((ks.take j).map Value.string)
  apart : Lv.ownBlock = none ∨ Lv.ownBlock ≠ Kv.ownBlock
  row : ∀ c, c < i → (V c).length = 5
  el : ∀ c y, c < i → l[c]? = some y → IsQ w (Free base w.heap.size Lv Kv) y (.agg (V c).toArray)
theorem own_later {w w' : World} {base : Nat} {e : TypeId} {size : Nat} {v : Value} {n : Nat} {xs : List Value} (h : w.ownsRow base e size v n xs) (hb : ∀ b, b < w.heap.size → v.ownBlock = some b → w'.heap[b]? = w.heap[b]?) : w'.ownsRow base e size v n xs := by
  refine ⟨h.1, ?_⟩
  rcases h.2 with hn | ⟨g, cap, cur, rfl, hbs, hg, rest⟩
  · exact .inl hn
  · exact .inr ⟨g, cap, cur, rfl, hbs, (hb g (Array.getElem?_eq_some_iff.1 hg).1 rfl).trans hg, rest⟩
theorem Mid.later {w w' : World} {base gb : Nat} {k n : Int} {s : ByteArray} {l : List Vl} {ks : List ByteArray} {Lv Kv : Value} {i j : Nat} {V : Nat → List Value} (h : Mid w base gb k n s l ks Lv Kv i j V) (hb : Below w.heap.size w w') : Mid w' base gb k n s l ks Lv Kv i j V where
  box := (hb.block gb (Nat.lt_of_lt_of_le h.below h.size)).trans h.box
  below := h.below
  size := Nat.le_trans h.size hb.size
  ownL := own_later h.ownL (fun b hl _ => hb.block b hl)
  ownK := own_later h.ownK (fun b hl _ => hb.block b hl)
  apart := h.apart
  row := h.row
  el := fun c y hc hy => ((h.el c y hc hy).move (fun b hP => hb.block b hP.2.1)).weak (fun _ hP => ⟨hP.1, Nat.lt_of_lt_of_le hP.2.1 hb.size, hP.2.2⟩)
/-- an element more -/
theorem Mid.pushL {w w6 : World} {base gb lo g' cap : Nat} {k n : Int} {s : ByteArray} {l : List Vl} {ks : List ByteArray} {Lv Kv : Value} {i j : Nat} {V : Nat → List Value} {y : Vl} {cs : List Value}
    (h : Mid w base gb k n s l ks Lv Kv i j V) (hlo : base ≤ lo) (hL : ∀ b, Lv.ownBlock = some b → b < lo) (hK : ∀ b, Kv.ownBlock = some b → b < lo) (hy : l[i]? = some y) (hx : IsQ w (fun b => lo ≤ b ∧ b < w.heap.size) y (.agg cs.toArray)) (hcs : cs.length = 5)
    (hw6 : ∀ b, b < w.heap.size → some b ≠ Lv.ownBlock → w6.heap[b]? = w.heap[b]?) (hs6 : w.heap.size ≤ w6.heap.size) (hown : w6.ownsRow base 29 5 (.slice (some ⟨g', 0, none⟩) (i + 1) cap) (i + 1) (flat V i ++ cs)) (hat : Lv.ownBlock = some g' ∨ w.heap.size ≤ g') :
    Mid (w6.setCell ⟨gb, 3, none⟩ (.slice (some ⟨g', 0, none⟩) (i + 1) cap)) base gb k n s l ks (.slice (some ⟨g', 0, none⟩) (i + 1) cap) Kv (i + 1) j (setV V i cs) := by
  have hgb := h.below
  have hsz := h.size
  have hLb : ∀ b, Lv.ownBlock = some b → base ≤ b ∧ b < w.heap.size := h.ownL.lt
  have hKb : ∀ b, Kv.ownBlock = some b → base ≤ b ∧ b < w.heap.size := h.ownK.lt
  -- a block that is neither the variable's nor the old row stands
  have keep : ∀ b, b < w.heap.size → b ≠ gb → some b ≠ Lv.ownBlock → (w6.setCell ⟨gb, 3, none⟩ (.slice (some ⟨g', 0, none⟩) (i + 1) cap)).heap[b]? = w.heap[b]? := fun b hb hne hnr => by
    rw [heap_setCell_other _ _ _ _ (by simpa using hne), hw6 b hb hnr]
  have hgbL : some gb ≠ Lv.ownBlock := fun e => by have := (hLb gb e.symm).1; omega
  have hsz6 : (w6.setCell ⟨gb, 3, none⟩ (.slice (some ⟨g', 0, none⟩) (i + 1) cap)).heap.size = w6.heap.size := by simp
  have gK : Kv.ownBlock ≠ some g' := by
    rcases hat with hat | hat
    · rcases h.apart with ha | ha
      · rw [hat] at ha; cases ha
      · rw [← hat]; exact fun e => ha e.symm
    · intro e; have := (hKb g' e).2; omega
  have fr : ∀ b, base ≤ b → b < w.heap.size → some b ≠ Lv.ownBlock → b ≠ g' := fun b _ hb hn e => by
    rcases hat with hat | hat
    · exact hn (by rw [hat, e])
    · omega
  refine ⟨?_, h.below, by rw [hsz6]; omega, ?_, ?_, ?_, ?_, ?_⟩
  · have hb6 : w6.heap[gb]? = some (.cells #[.int .i64 k, .int .i64 n, .string s, Lv, Kv] 29 (0, 0)) := by
      rw [hw6 gb (by omega) hgbL]; exact h.box
    rw [heap_setCell_same w6 gb 3 _ _ _ hb6]
    rfl
  · rw [flat_set]
    refine own_later hown (fun b hb hbe => ?_)
    have e : b = g' := by simpa [Value.ownBlock] using hbe.symm
    have hg0 : base ≤ g' := (hown.lt g' rfl).1
    rw [heap_setCell_other _ _ _ _ (by simp; omega)]
  · refine own_later h.ownK (fun b hb hbe => keep b hb (fun e => by have := (hKb b hbe).1; omega) (fun e => ?_))
    rcases h.apart with ha | ha
    · rw [ha] at e; cases e
    · exact ha (e.symm.trans hbe.symm)
  · exact Or.inr (fun e => gK e.symm)
  · intro c hc
    by_cases e : c = i
    · subst e; rw [setV_same]; exact hcs
    · rw [setV_other V i cs (by omega)]; exact h.row c (by omega)
  · intro c z hc hz
    by_cases e : c = i
    · subst e
      rw [setV_same]
      have hzy : z = y := by rw [hy] at hz; exact (Option.some.inj hz).symm
      subst hzy
      refine (hx.move (fun b hP => keep b hP.2 (by omega) (fun e => by have := hL b e.symm; omega))).weak (fun b hP => ⟨by omega, by rw [hsz6]; omega, fun e => ?_, fun e => ?_⟩)
      · have e' : b = g' := by simpa [Value.ownBlock] using e
        rcases hat with hat | hat
        · have := hL g' hat; omega
        · omega
      · have := hK b e.symm; omega
    · rw [setV_other V i cs (by omega)]
      refine ((h.el c z (by omega) hz).move (fun b hP => keep b hP.2.1 (by have := hP.1; omega) hP.2.2.1)).weak (fun b hP => ⟨hP.1, by rw [hsz6]; have := hP.2.1; omega, fun e => ?_, hP.2.2.2⟩)
      have e' : b = g' := by simpa [Value.ownBlock] using e
      exact fr b hP.1 hP.2.1 hP.2.2.1 e'
/-- a key more -/
theorem Mid.pushK {w w6 : World} {base gb g' cap : Nat} {k n : Int} {s : ByteArray} {l : List Vl} {ks : List ByteArray} {Lv Kv : Value} {i j j' : Nat} {V : Nat → List Value}
    (h : Mid w base gb k n s l ks Lv Kv i j V)
    (hw6 : ∀ b, b < w.heap.size → some b ≠ Kv.ownBlock → w6.heap[b]? = w.heap[b]?) (hs6 : w.heap.size ≤ w6.heap.size) (hown : w6.ownsRow base 9 1 (.slice (some ⟨g', 0, none⟩) j' cap) j' ((ks.take j').map Value.string)) (hat : Kv.ownBlock = some g' ∨ w.heap.size ≤ g') :
    Mid (w6.setCell ⟨gb, 4, none⟩ (.slice (some ⟨g', 0, none⟩) j' cap)) base gb k n s l ks Lv (.slice (some ⟨g', 0, none⟩) j' cap) i j' V := by
  have hgb := h.below
  have hsz := h.size
  have hLb : ∀ b, Lv.ownBlock = some b → base ≤ b ∧ b < w.heap.size := h.ownL.lt
  have hKb : ∀ b, Kv.ownBlock = some b → base ≤ b ∧ b < w.heap.size := h.ownK.lt
  have keep : ∀ b, b < w.heap.size → b ≠ gb → some b ≠ Kv.ownBlock → (w6.setCell ⟨gb, 4, none⟩ (.slice (some ⟨g', 0, none⟩) j' cap)).heap[b]? = w.heap[b]? := fun b hb hne hnr => by
    rw [heap_setCell_other _ _ _ _ (by simpa using hne), hw6 b hb hnr]
  have hgbK : some gb ≠ Kv.ownBlock := fun e => by have := (hKb gb e.symm).1; omega
  have hsz6 : (w6.setCell ⟨gb, 4, none⟩ (.slice (some ⟨g', 0, none⟩) j' cap)).heap.size = w6.heap.size := by simp
  have gL : Lv.ownBlock ≠ some g' := by
    rcases hat with hat | hat
    · rcases h.apart with ha | ha
      · rw [ha]; exact fun e => by cases e
      · rw [← hat]; exact ha
    · intro e; have := (hLb g' e).2; omega
  refine ⟨?_, h.below, by rw [hsz6]; omega, ?_, ?_, Or.inr gL, h.row, ?_⟩
  · have hb6 : w6.heap[gb]? = some (.cells #[.int .i64 k, .int .i64 n, .string s, Lv, Kv] 29 (0, 0)) := by
      rw [hw6 gb (by omega) hgbK]; exact h.box
    rw [heap_setCell_same w6 gb 4 _ _ _ hb6]
    rfl
  · refine own_later h.ownL (fun b hb hbe => keep b hb (fun e => by have := (hLb b hbe).1; omega) (fun e => ?_))
    rcases h.apart with ha | ha
    · rw [ha] at hbe; cases hbe
    · exact ha (hbe.trans e)
  · refine own_later hown (fun b hb hbe => ?_)
    have e : b = g' := by simpa [Value.ownBlock] using hbe.symm
    have hg0 : base ≤ g' := (hown.lt g' rfl).1
    rw [heap_setCell_other _ _ _ _ (by simp; omega)]
  · intro c z hc hz
    refine ((h.el c z hc hz).move (fun b hP => keep b hP.2.1 (by have := hP.1; omega) hP.2.2.2)).weak (fun b hP => ⟨hP.1, by rw [hsz6]; have := hP.2.1; omega, hP.2.2.1, fun e => ?_⟩)
    have e' : b = g' := by simpa [Value.ownBlock] using e
    rcases hat with hat | hat
    · exact hP.2.2.2 (by rw [hat, e'])
    · have := hP.2.1; omega
/-- a row for the elements, none in it yet -/
theorem Mid.roomL {w w6 : World} {base gb g' cap : Nat} {k n : Int} {s : ByteArray} {l : List Vl} {ks : List ByteArray} {Kv : Value} {j : Nat} {V : Nat → List Value}
    (h : Mid w base gb k n s l ks (.slice none 0 0) Kv 0 j V)
    (hw6 : ∀ b, b < w.heap.size → w6.heap[b]? = w.heap[b]?) (hs6 : w.heap.size ≤ w6.heap.size) (hown : w6.ownsRow base 29 5 (.slice (some ⟨g', 0, none⟩) 0 cap) 0 []) (hat : w.heap.size ≤ g') :
    Mid (w6.setCell ⟨gb, 3, none⟩ (.slice (some ⟨g', 0, none⟩) 0 cap)) base gb k n s l ks (.slice (some ⟨g', 0, none⟩) 0 cap) Kv 0 j V := by
  have hgb := h.below
  have hsz := h.size
  have hKb : ∀ b, Kv.ownBlock = some b → base ≤ b ∧ b < w.heap.size := h.ownK.lt
  have hsz6 : (w6.setCell ⟨gb, 3, none⟩ (.slice (some ⟨g', 0, none⟩) 0 cap)).heap.size = w6.heap.size := by simp
  refine ⟨?_, h.below, by rw [hsz6]; omega, ?_, ?_, Or.inr (fun e => ?_), fun c hc => by omega, fun c y hc => by omega⟩
  · have hb6 : w6.heap[gb]? = some (.cells #[.int .i64 k, .int .i64 n, .string s, .slice none 0 0, Kv] 29 (0, 0)) := by
      rw [hw6 gb (by omega)]; exact h.box
    rw [heap_setCell_same w6 gb 3 _ _ _ hb6]
    rfl
  · refine own_later hown (fun b hb hbe => ?_)
    have e : b = g' := by simpa [Value.ownBlock] using hbe.symm
    rw [heap_setCell_other _ _ _ _ (by simp; omega)]
  · refine own_later h.ownK (fun b hb hbe => ?_)
    rw [heap_setCell_other _ _ _ _ (by have := (hKb b hbe).1; simp; omega), hw6 b hb]
  · have := (hKb g' e.symm).2
    omega
theorem slice_form {w : World} {base : Nat} {e : TypeId} {size : Nat} {v : Value} {n : Nat} {xs : List Value} (h : w.ownsRow base e size v n xs) : ∃ ao cap, v = .slice ao n cap ∧ (ao = none → n = 0 ∧ cap = 0) ∧ n ≤ cap ∧ cap ≤ maxLen ∧ ∀ a, ao = some a → v.ownBlock = some a.block ∧ a = ⟨a.block, 0, none⟩ := by
  rcases h.2 with ⟨rfl, rfl⟩ | ⟨g, cap, cur, rfl, hb, hg, h1, h2, _⟩
  · exact ⟨none, 0, rfl, fun _ => ⟨rfl, rfl⟩, Nat.le_refl _, by unfold maxLen; omega, fun a h => by cases h⟩
  · exact ⟨some ⟨g, 0, none⟩, cap, rfl, (fun e => by cases e), h1, h2, fun a h => by cases h; exact ⟨rfl, rfl⟩⟩
theorem five_set (w : World) (g : Nat) (T : TypeId) (c0 c1 c2 c3 c4 x0 x1 x2 x3 x4 : Value) (h : w.heap[g]? = some (.cells #[c0, c1, c2, c3, c4] T (0, 0))) :
    (((((w.setCell ⟨g, 0, none⟩ x0).setCell ⟨g, 1, none⟩ x1).setCell ⟨g, 2, none⟩ x2).setCell ⟨g, 3, none⟩ x3).setCell ⟨g, 4, none⟩ x4).heap[g]? = some (.cells #[x0, x1, x2, x3, x4] T (0, 0)) := by
  have h1 := heap_setCell_same w g 0 _ T x0 h
  have h2 := heap_setCell_same _ g 1 _ T x1 h1
  have h3 := heap_setCell_same _ g 2 _ T x2 h2
  have h4 := heap_setCell_same _ g 3 _ T x3 h3
  have h5 := heap_setCell_same _ g 4 _ T x4 h4
  rw [h5]
  rfl
theorem five_other (w : World) (g q : Nat) (x0 x1 x2 x3 x4 : Value) (h : q ≠ g) : (((((w.setCell ⟨g, 0, none⟩ x0).setCell ⟨g, 1, none⟩ x1).setCell ⟨g, 2, none⟩ x2).setCell ⟨g, 3, none⟩ x3).setCell ⟨g, 4, none⟩ x4).heap[q]? = w.heap[q]? := by
  rw [heap_setCell_other _ _ _ _ h, heap_setCell_other _ _ _ _ h, heap_setCell_other _ _ _ _ h, heap_setCell_other _ _ _ _ h, heap_setCell_other _ _ _ _ h]
theorem five_below {B g : Nat} {a w : World} (h : Below B a w) (hg : B ≤ g) (x0 x1 x2 x3 x4 : Value) : Below B a (((((w.setCell ⟨g, 0, none⟩ x0).setCell ⟨g, 1, none⟩ x1).setCell ⟨g, 2, none⟩ x2).setCell ⟨g, 3, none⟩ x3).setCell ⟨g, 4, none⟩ x4) :=
  ((((h.setCell (p := ⟨g, 0, none⟩) hg x0).setCell (p := ⟨g, 1, none⟩) hg x1).setCell (p := ⟨g, 2, none⟩) hg x2).setCell (p := ⟨g, 3, none⟩) hg x3).setCell (p := ⟨g, 4, none⟩) hg x4
/-- the value, when it is made -/
theorem Mid.made {w : World} {base gb : Nat} {k n : Int} {s : ByteArray} {l : List Vl} {ks : List ByteArray} {Lv Kv : Value} {i j : Nat} {V : Nat → List Value} (h : Mid w base gb k n s l ks Lv Kv i j V) (hi : i = l.length) (hj : j = ks.length)
    (bk : -9223372036854775808 ≤ k ∧ k ≤ 9223372036854775807) (bn : -9223372036854775808 ≤ n ∧ n ≤ 9223372036854775807) (bs : s.size ≤ 140737488351232) (bq : 16 * ks.length ≤ 140737488351232) (bt : ∀ t ∈ ks, t.size ≤ 140737488351232) (hbl : l.length ≤ 1000000) :
    IsQ w (fun b => base ≤ b ∧ b < w.heap.size) (.mk k n s l ks) (.agg #[.int .i64 k, .int .i64 n, .string s, Lv, Kv]) := by
  subst hi
  subst hj
  obtain ⟨al, cl, hLe, nl, ll, _, hLa⟩ := slice_form h.ownL
  obtain ⟨ak, ck, hKe, nk, lk, _, hKa⟩ := slice_form h.ownK
  have oL := h.ownL
  have oK := h.ownK
  rw [List.take_of_length_le (Nat.le_refl _)] at oK
  have e1 : (.agg #[.int .i64 k, .int .i64 n, .string s, Lv, Kv] : Value) = .agg #[.int .i64 k, .int .i64 n, .string s, .slice al l.length cl, .slice ak ks.length ck] := by rw [hLe, hKe]
  rw [e1]
  have hel := fun c y (hy : l[c]? = some y) => (h.el c y (List.getElem?_eq_some_iff.1 hy).1 hy).weak (Q := fun b => base ≤ b ∧ b < w.heap.size) (fun b hP => ⟨hP.1, hP.2.1⟩)
  refine ⟨IsP.of (V := V) ⟨bk, bn, bs, nl, nk, ll, lk, by omega, by omega, by omega, ?_, h.row, ?_, bt⟩ (fun c y hy => (hel c y hy).1), ?_⟩
  · intro a ha c hc
    obtain ⟨h1, h2⟩ := hLa a ha
    refine ⟨oL.lt _ h1, fun q v hv => ?_⟩
    have h5 : q < 5 := by have := (List.getElem?_eq_some_iff.1 hv).1; rw [h.row c hc] at this; exact this
    have hc' := oL.cells h1 (c * 5 + q) v (flat_at V l.length h.row c hc q v hv)
    have ea : (a.add (c * 5)).add q = (⟨a.block, 0, none⟩ : Addr).add (c * 5 + q) := by
      rw [h2]
      unfold Addr.add
      by_cases h0 : c * 5 = 0
      · by_cases h1 : q = 0
        · simp [h0, h1]
        · simp [h0, h1]
      · by_cases h1 : q = 0
        · simp [h0, h1]
        · simp [h0, h1]
    rw [ea]
    exact hc'
  · intro a ha c t ht
    obtain ⟨h1, h2⟩ := hKa a ha
    refine ⟨oK.lt _ h1, ?_⟩
    rw [h2]
    exact oK.cells h1 c (.string t) (by rw [List.getElem?_map, ht]; rfl)
  · show Ty w _ (1 + depL l) _
    rw [Nat.add_comm]
    refine ⟨k, n, s, al, l.length, cl, ak, ks.length, ck, rfl, ?_, ?_⟩
    · rcases oL.2 with ⟨e, hn⟩ | ⟨g, cap, cur, e, hb, hg, hnc, hcm, hsz, htk⟩
      · rw [hLe] at e
        simp only [Value.slice.injEq] at e
        exact Or.inl e
      · rw [hLe] at e
        simp only [Value.slice.injEq, true_and] at e
        obtain ⟨rfl, rfl⟩ := e
        refine Or.inr ⟨g, cur, rfl, ⟨hb, (Array.getElem?_eq_some_iff.1 hg).1⟩, hg, hsz, hnc, hcm, hbl, fun i hi => ?_⟩
        obtain ⟨y, hy⟩ : ∃ y, l[i]? = some y := ⟨_, List.getElem?_eq_getElem hi⟩
        have h5 := h.row i hi
        have hc : ∀ j v, (V i)[j]? = some v → cur[i * 5 + j]? = some v := fun j v hv => by
          have h1 := flat_at V l.length h.row i hi j v hv
          rw [← htk, List.getElem?_take] at h1
          split at h1
          · simpa using h1
          · cases h1
        have ht := (hel i y hy).2.le (dep_le hy)
        match hV : V i, h5 with
        | [y0, y1, y2, y3, y4], _ =>
          rw [hV] at hc ht
          exact ⟨y0, y1, y2, y3, y4, ⟨by simpa using hc 0 y0 rfl, hc 1 y1 rfl, hc 2 y2 rfl, hc 3 y3 rfl, hc 4 y4 rfl⟩, ht⟩
    · rcases oK.2 with ⟨e, hn⟩ | ⟨g, cap, cur, e, hb, hg, hnc, hcm, hsz, htk⟩
      · rw [hKe] at e
        simp only [Value.slice.injEq] at e
        exact Or.inl e
      · rw [hKe] at e
        simp only [Value.slice.injEq, true_and] at e
        obtain ⟨rfl, rfl⟩ := e
        exact Or.inr ⟨g, cur, rfl, ⟨hb, (Array.getElem?_eq_some_iff.1 hg).1⟩, hg, by rw [hsz, Nat.mul_one], hnc, hcm, by omega⟩
end Go.Proofs.YtmnbfcpkaglniaaGreatDoor

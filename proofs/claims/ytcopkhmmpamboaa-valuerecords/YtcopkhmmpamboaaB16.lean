/-
  Putting into a record's rows, as lists; what the document's put keeps while it walks; no conditions.
-/
import Derived.Test.YtcopkhmmpamboaaB15
namespace Go.Proofs.Ytcopkhmmpamboaa
open Go.RowKit
set_option linter.unusedVariables false
set_option linter.unusedSimpArgs false

section
variable {α β : Type}

def putStep (key : ByteArray) (xi : α) (a : List (ByteArray × α) × Bool) (t : ByteArray × α) : List (ByteArray × α) × Bool :=
  if t.1 = key then (if a.2 = false ∧ bl t.1 key = false then (a.1 ++ [(key, xi)], true) else a)
  else ((if a.2 = false ∧ bl t.1 key = false then (a.1 ++ [(key, xi)], true) else a).1 ++ [t], (if a.2 = false ∧ bl t.1 key = false then (a.1 ++ [(key, xi)], true) else a).2)
def putEnd (key : ByteArray) (xi : α) (a : List (ByteArray × α) × Bool) : List (ByteArray × α) := if a.2 = false then a.1 ++ [(key, xi)] else a.1
def putF (key : ByteArray) (xi : α) (ts : List (ByteArray × α)) : List (ByteArray × α) := putEnd key xi (ts.foldl (putStep key xi) ([], false))

theorem putStep_len (key : ByteArray) (xi : α) (a : List (ByteArray × α) × Bool) (t : ByteArray × α) : (putStep key xi a t).1.length ≤ a.1.length + 2 := by
  unfold putStep
  split <;> split <;> simp
theorem putFold_len (key : ByteArray) (xi : α) : ∀ (ts : List (ByteArray × α)) (a : List (ByteArray × α) × Bool), (ts.foldl (putStep key xi) a).1.length ≤ a.1.length + 2 * ts.length
  | [], a => by simp
  | t :: r, a => by
    have h1 := putFold_len key xi r (putStep key xi a t)
    have h2 := putStep_len key xi a t
    simp only [List.foldl_cons, List.length_cons]
    omega

theorem putStep_mem (key : ByteArray) (xi : α) (a : List (ByteArray × α) × Bool) (t : ByteArray × α) : ∀ z ∈ (putStep key xi a t).1, z ∈ a.1 ∨ z = (key, xi) ∨ z = t := by
  intro z hz
  unfold putStep at hz
  have key2 : ∀ z ∈ (if a.2 = false ∧ bl t.1 key = false then (a.1 ++ [(key, xi)], true) else a).1, z ∈ a.1 ∨ z = (key, xi) := by
    intro z hz
    split at hz
    · rcases List.mem_append.1 hz with h | h
      · exact Or.inl h
      · exact Or.inr (by simpa using h)
    · exact Or.inl hz
  split at hz
  · rcases key2 z hz with h | h
    · exact Or.inl h
    · exact Or.inr (Or.inl h)
  · rcases List.mem_append.1 hz with h | h
    · rcases key2 z h with h | h
      · exact Or.inl h
      · exact Or.inr (Or.inl h)
    · exact Or.inr (Or.inr (by simpa using h))
theorem putFold_mem (key : ByteArray) (xi : α) : ∀ (ts : List (ByteArray × α)) (a : List (ByteArray × α) × Bool), ∀ z ∈ (ts.foldl (putStep key xi) a).1, z ∈ a.1 ∨ z = (key, xi) ∨ z ∈ ts
  | [], a => fun z hz => Or.inl hz
  | t :: r, a => fun z hz => by
    rw [List.foldl_cons] at hz
    rcases putFold_mem key xi r _ z hz with h | h | h
    · rcases putStep_mem key xi a t z h with h | h | h
      · exact Or.inl h
      · exact Or.inr (Or.inl h)
      · exact Or.inr (Or.inr (by rw [h]; exact List.mem_cons_self))
    · exact Or.inr (Or.inl h)
    · exact Or.inr (Or.inr (List.mem_cons_of_mem _ h))
theorem putF_mem (key : ByteArray) (xi : α) (ts : List (ByteArray × α)) : ∀ z ∈ putF key xi ts, z = (key, xi) ∨ z ∈ ts := by
  intro z hz
  unfold putF putEnd at hz
  have h0 := putFold_mem key xi ts ([], false) z
  split at hz
  · rcases List.mem_append.1 hz with h | h
    · rcases h0 h with h | h
      · cases h
      · exact h
    · exact Or.inl (by simpa using h)
  · rcases h0 hz with h | h
    · cases h
    · exact h

/-- the same, with something else beside the keys -/
theorem putStep_map (f : α → β) (key : ByteArray) (xi : α) (a : List (ByteArray × α) × Bool) (t : ByteArray × α) :
    putStep key (f xi) (a.1.map (fun t => (t.1, f t.2)), a.2) (t.1, f t.2) = ((putStep key xi a t).1.map (fun t => (t.1, f t.2)), (putStep key xi a t).2) := by
  unfold putStep
  by_cases h1 : t.1 = key
  · simp only [h1, if_true]
    split <;> simp
  · simp only [h1, if_false]
    split <;> simp
theorem putFold_map (f : α → β) (key : ByteArray) (xi : α) : ∀ (ts : List (ByteArray × α)) (a : List (ByteArray × α) × Bool),
    (ts.map (fun t => (t.1, f t.2))).foldl (putStep key (f xi)) (a.1.map (fun t => (t.1, f t.2)), a.2) = ((ts.foldl (putStep key xi) a).1.map (fun t => (t.1, f t.2)), (ts.foldl (putStep key xi) a).2)
  | [], a => rfl
  | t :: r, a => by
    simp only [List.map_cons, List.foldl_cons]
    rw [putStep_map]
    exact putFold_map f key xi r _
theorem putF_map (f : α → β) (key : ByteArray) (xi : α) (ts : List (ByteArray × α)) : putF key (f xi) (ts.map (fun t => (t.1, f t.2))) = (putF key xi ts).map (fun t => (t.1, f t.2)) := by
  have h := putFold_map f key xi ts ([], false)
  simp only [List.map_nil] at h
  unfold putF putEnd
  rw [h]
  split <;> simp
end

/-- the record that put makes -/
def putVl (l : List Vl) (ks : List ByteArray) (key : ByteArray) (x : Vl) : Vl := .mk 5 0 ⟨#[]⟩ ((putF key x (ks.zip l)).map (·.2)) ((putF key x (ks.zip l)).map (·.1))

/-- rows of cells as a function -/
def celF (cl : List (List Value)) : Nat → List Value := fun i => cl[i]?.getD []

theorem celF_push (cl : List (List Value)) (c : List Value) : flat (celF (cl ++ [c])) (cl.length + 1) = flat (celF cl) cl.length ++ c := by
  simp only [flat]
  have h1 : celF (cl ++ [c]) cl.length = c := by unfold celF; simp
  rw [h1, flat_congr (celF (cl ++ [c])) (celF cl) cl.length (fun j hj => by unfold celF; rw [List.getElem?_append_left hj])]

/-- what put keeps -/
structure Pq (w u : World) (g gb : Nat) (A X Z : Array Value) (kl : List ByteArray) (cl : List (List Value)) (Lv Kv : Value) : Prop where
  at0 : u.heap[g]? = some (.cells A 27 (0, 0))
  at1 : u.heap[g + 1]? = some (.cells X 27 (0, 0))
  at2 : u.heap[g + 1 + 1]? = some (.cells Z 27 (0, 0))
  box : u.heap[gb]? = some (.cells #[.int .i64 5, .int .i64 0, .string ⟨#[]⟩, Lv, Kv] 27 (0, 0))
  low : g + 3 ≤ gb
  size : gb + 1 ≤ u.heap.size
  below : Below g w u
  keys : u.ownsRow (gb + 1) 9 1 Kv kl.length (kl.map Value.string)
  els : u.ownsRow (gb + 1) 27 5 Lv cl.length (flat (celF cl) cl.length)

theorem pq_later {w u u1 : World} {g gb : Nat} {A X Z : Array Value} {kl : List ByteArray} {cl : List (List Value)} {Lv Kv : Value} (h : Pq w u g gb A X Z kl cl Lv Kv) (hu : Below u.heap.size u u1) : Pq w u1 g gb A X Z kl cl Lv Kv := by
  have h1 := h.size
  have h2 := h.low
  exact ⟨(hu.block g (by omega)).trans h.at0, (hu.block (g + 1) (by omega)).trans h.at1, (hu.block (g + 1 + 1) (by omega)).trans h.at2, (hu.block gb (by omega)).trans h.box, h.low, Nat.le_trans h.size hu.size, h.below.trans (hu.mono (by omega)), own_to5 h.keys (fun b e => hu.block b (h.keys.lt b e).2), own_to5 h.els (fun b e => hu.block b (h.els.lt b e).2)⟩

theorem pq_key {w u u1 : World} {g gb : Nat} {A X Z : Array Value} {kl : List ByteArray} {cl : List (List Value)} {Lv Kv Kv' : Value} {t : ByteArray} {nk : Nat} (h : Pq w u g gb A X Z kl cl Lv Kv) (hn : kl.length = nk) (ok : u1.ownsRow (gb + 1) 9 1 Kv' (nk + 1) (kl.map Value.string ++ [.string t])) (gk : u.grownBy u1 Kv.ownBlock) :
    Pq w (u1.setCell ⟨gb, 4, none⟩ Kv') g gb A X Z (kl ++ [t]) cl Lv Kv' := by
  subst hn
  have h1 := h.size
  have h2 := h.low
  have hB : Below (gb + 1) u u1 := (Below.refl _ _).grown gk h.size (fun k e => (h.keys.lt k e).1)
  have hb1 := (hB.block gb (by omega)).trans h.box
  have hS : Below gb u1 (u1.setCell ⟨gb, 4, none⟩ Kv') := (Below.refl _ _).setCell (p := ⟨gb, 4, none⟩) (Nat.le_refl _) _
  have hA : Below gb u (u1.setCell ⟨gb, 4, none⟩ Kv') := (hB.mono (by omega)).trans hS
  have ok' : u1.ownsRow (gb + 1) 9 1 Kv' (kl ++ [t]).length ((kl ++ [t]).map Value.string) := by
    rw [List.length_append, List.map_append]
    exact ok
  refine ⟨(hA.block g (by omega)).trans h.at0, (hA.block (g + 1) (by omega)).trans h.at1, (hA.block (g + 1 + 1) (by omega)).trans h.at2, (set_box hb1 _).1, h2, Nat.le_trans h1 hA.size, h.below.trans (hA.mono (by omega)), own_to5 ok' (fun b e => heap_setCell_other _ _ _ _ (by have := (ok'.lt b e).1; show b ≠ gb; omega)), ?_⟩
  have e1 := own_to5 h.els (fun b e => gk.block b (h.els.lt b e).2 (own_two h.els h.keys (by decide) e))
  exact own_to5 e1 (fun b e => heap_setCell_other _ _ _ _ (by have := (e1.lt b e).1; show b ≠ gb; omega))

theorem pq_el {w u u1 : World} {g gb : Nat} {A X Z : Array Value} {kl : List ByteArray} {cl : List (List Value)} {Lv Kv Lv' : Value} {c : List Value} {nl : Nat} (h : Pq w u g gb A X Z kl cl Lv Kv) (hn : cl.length = nl) (ol : u1.ownsRow (gb + 1) 27 5 Lv' (nl + 1) (flat (celF cl) nl ++ c)) (gl : u.grownBy u1 Lv.ownBlock) :
    Pq w (u1.setCell ⟨gb, 3, none⟩ Lv') g gb A X Z kl (cl ++ [c]) Lv' Kv := by
  subst hn
  have h1 := h.size
  have h2 := h.low
  have hB : Below (gb + 1) u u1 := (Below.refl _ _).grown gl h.size (fun k e => (h.els.lt k e).1)
  have hb1 := (hB.block gb (by omega)).trans h.box
  have hS : Below gb u1 (u1.setCell ⟨gb, 3, none⟩ Lv') := (Below.refl _ _).setCell (p := ⟨gb, 3, none⟩) (Nat.le_refl _) _
  have hA : Below gb u (u1.setCell ⟨gb, 3, none⟩ Lv') := (hB.mono (by omega)).trans hS
  have ol' : u1.ownsRow (gb + 1) 27 5 Lv' (cl ++ [c]).length (flat (celF (cl ++ [c])) (cl ++ [c]).length) := by
    rw [List.length_append, List.length_singleton, celF_push]
    exact ol
  refine ⟨(hA.block g (by omega)).trans h.at0, (hA.block (g + 1) (by omega)).trans h.at1, (hA.block (g + 1 + 1) (by omega)).trans h.at2, (set_box hb1 _).2, h2, Nat.le_trans h1 hA.size, h.below.trans (hA.mono (by omega)), ?_, own_to5 ol' (fun b e => heap_setCell_other _ _ _ _ (by have := (ol'.lt b e).1; show b ≠ gb; omega))⟩
  have e1 := own_to5 h.keys (fun b e => gl.block b (h.keys.lt b e).2 (own_two h.keys h.els (by decide) e))
  exact own_to5 e1 (fun b e => heap_setCell_other _ _ _ _ (by have := (e1.lt b e).1; show b ≠ gb; omega))

theorem pq_start (w : World) (g : Nat) (hg : w.heap.size = g) (A X Z : Array Value) :
    Pq w ((((w.alloc (.cells A 27)).alloc (.cells X 27)).alloc (.cells Z 27)).alloc (.cells #[.int .i64 5, .int .i64 0, .string ⟨#[]⟩, .slice none 0 0, .slice none 0 0] 27)) g (g + 1 + 1 + 1) A X Z [] [] (.slice none 0 0) (.slice none 0 0) := by
  subst hg
  have h0 := heap_alloc_new w (.cells A 27)
  have h1 := heap_alloc_new (w.alloc (.cells A 27)) (.cells X 27)
  have h2 := heap_alloc_new ((w.alloc (.cells A 27)).alloc (.cells X 27)) (.cells Z 27)
  have h3 := heap_alloc_new (((w.alloc (.cells A 27)).alloc (.cells X 27)).alloc (.cells Z 27)) (.cells #[.int .i64 5, .int .i64 0, .string ⟨#[]⟩, .slice none 0 0, .slice none 0 0] 27)
  have s1 : (w.alloc (.cells A 27)).heap.size = w.heap.size + 1 := by simp
  have s2 : ((w.alloc (.cells A 27)).alloc (.cells X 27)).heap.size = w.heap.size + 1 + 1 := by simp
  have s3 : (((w.alloc (.cells A 27)).alloc (.cells X 27)).alloc (.cells Z 27)).heap.size = w.heap.size + 1 + 1 + 1 := by simp
  rw [s1] at h1
  rw [s2] at h2
  rw [s3] at h3
  refine ⟨?_, ?_, ?_, h3, by omega, by simp, ((((Below.refl _ _).alloc (Nat.le_refl _) _).alloc (by rw [s1]; omega) _).alloc (by rw [s2]; omega) _).alloc (by rw [s3]; omega) _, World.ownsRow_nil _ _ _ _, World.ownsRow_nil _ _ _ _⟩
  · rw [heap_alloc_old _ _ (by omega), heap_alloc_old _ _ (by omega), heap_alloc_old _ _ (by omega)]; exact h0
  · rw [heap_alloc_old _ _ (by omega), heap_alloc_old _ _ (by omega)]; exact h1
  · rw [heap_alloc_old _ _ (by omega)]; exact h2

/-- a record's rows, one behind the other -/
def itsOf (V : Nat → List Value) (ks : List ByteArray) (l : List Vl) : List (ByteArray × List Value × Vl) := ks.zip (((List.range l.length).map V).zip l)

theorem its_at {V : Nat → List Value} {ks : List ByteArray} {l : List Vl} {i : Nat} {t : ByteArray} {y : Vl} (h1 : ks[i]? = some t) (h2 : l[i]? = some y) : (itsOf V ks l)[i]? = some (t, V i, y) := by
  have hi := (List.getElem?_eq_some_iff.1 h2).1
  unfold itsOf
  rw [List.getElem?_zip_eq_some]
  refine ⟨h1, ?_⟩
  rw [List.getElem?_zip_eq_some]
  exact ⟨by simp [hi], h2⟩

theorem its_mem {V : Nat → List Value} {ks : List ByteArray} {l : List Vl} {t : ByteArray × List Value × Vl} (h : t ∈ itsOf V ks l) : ∃ i, ks[i]? = some t.1 ∧ l[i]? = some t.2.2 ∧ t.2.1 = V i := by
  obtain ⟨i, hi⟩ := List.getElem?_of_mem h
  unfold itsOf at hi
  rw [List.getElem?_zip_eq_some, List.getElem?_zip_eq_some] at hi
  obtain ⟨h1, h2, h3⟩ := hi
  refine ⟨i, h1, h3, ?_⟩
  have h4 := (List.getElem?_eq_some_iff.1 h3).1
  rw [List.getElem?_map, List.getElem?_range h4] at h2
  simpa using h2.symm

theorem its_len {V : Nat → List Value} {ks : List ByteArray} {l : List Vl} (h : ks.length = l.length) : (itsOf V ks l).length = ks.length := by
  unfold itsOf
  simp [h]

theorem its_map {V : Nat → List Value} {ks : List ByteArray} {l : List Vl} (h : ks.length = l.length) : (itsOf V ks l).map (fun t => (t.1, t.2.2)) = ks.zip l := by
  apply List.ext_getElem?
  intro i
  rw [List.getElem?_map]
  by_cases hi : i < l.length
  · obtain ⟨y, hy⟩ : ∃ y, l[i]? = some y := ⟨_, List.getElem?_eq_getElem hi⟩
    obtain ⟨t, ht⟩ : ∃ t, ks[i]? = some t := ⟨_, List.getElem?_eq_getElem (by omega)⟩
    rw [its_at ht hy]
    symm
    rw [Option.map_some, List.getElem?_zip_eq_some]
    exact ⟨ht, hy⟩
  · rw [List.getElem?_eq_none (by rw [its_len h]; omega), List.getElem?_eq_none (by simp; omega)]
    rfl
end Go.Proofs.Ytcopkhmmpamboaa

/-
  What Record keeps while it walks: the sorted entries, the record that is made; no conditions.
-/
import Derived.Test.YtcopkhmmpamboaaL43
import Derived.Test.YtcopkhmmpamboaaL25
namespace Go.Proofs.Ytcopkhmmpamboaa
open Go.RowKit
set_option linter.unusedVariables false
set_option linter.unusedSimpArgs false

/-- an entry's value, as its cells -/
def valE (x : Ent) : List Value := [.int .i64 x.2.1, .int .i64 x.2.2.1, .string x.2.2.2.1, .slice x.2.2.2.2.1.1 x.2.2.2.2.1.2.1 x.2.2.2.2.1.2.2, .slice x.2.2.2.2.2.1 x.2.2.2.2.2.2.1 x.2.2.2.2.2.2.2]

/-- the keys, the values so far -/
def keyR (d : Array Ent) (i : Nat) : List Value := (d.toList.take i).map (fun x => Value.string x.1)
def elR (d : Array Ent) : Nat → List Value := fun c => valE d[c]!

theorem keyR_succ (d : Array Ent) (i : Nat) (h : i < d.size) : keyR d (i + 1) = keyR d i ++ [.string d[i]!.1] := by
  unfold keyR
  rw [List.take_add_one, List.map_append, Array.getElem?_toList, Array.getElem?_eq_getElem h, getElem!_pos d i h]
  rfl

theorem elR_succ (d : Array Ent) (i : Nat) : flat (elR d) (i + 1) = flat (elR d) i ++ valE d[i]! := by
  have hV : ∀ n, ∀ c, c < n → (elR d c).length = 5 := fun n c _ => rfl
  refine flat_ext (hV _) (by rw [List.length_append, flat_len (elR d) i (hV i)]; show i * 5 + 5 = _; omega) (fun c hc j hj => ?_)
  by_cases h : c < i
  · rw [List.getElem?_append_left (by rw [flat_len (elR d) i (hV i)]; omega)]
    exact flat_get (hV i) c j h hj
  · have hci : c = i := by omega
    subst hci
    rw [List.getElem?_append_right (by rw [flat_len (elR d) c (hV c)]; omega), flat_len (elR d) c (hV c), show c * 5 + j - c * 5 = j by omega]
    rfl

/-- how far Record is: i keys, j values -/
structure Rq (w u : World) (g gb : Nat) (d : Array Ent) (sa : Option Addr) (sn sc i j : Nat) (Lv Kv : Value) : Prop where
  at0 : u.heap[g]? = some (.cells #[.int .i64 0, .int .i64 0, .string ⟨#[]⟩, .slice none 0 0, .slice none 0 0] 27 (0, 0))
  box : u.heap[gb]? = some (.cells #[.int .i64 5, .int .i64 0, .string ⟨#[]⟩, Lv, Kv] 27 (0, 0))
  low : g < gb
  size : gb + 1 ≤ u.heap.size
  below : Below g w u
  shows : Shows u sa sn sc 6 (Go.Sort.flatK encE 6 d).toList
  sblk : ∀ a, sa = some a → a.block < gb
  keys : u.ownsRow (gb + 1) 9 1 Kv i (keyR d i)
  els : u.ownsRow (gb + 1) 27 5 Lv j (flat (elR d) j)

theorem shows_to {u u1 : World} {sa : Option Addr} {n c k b : Nat} {xs : List Value} (h : Shows u sa n c k xs) (hb : ∀ a, sa = some a → a.block < b) (hu : ∀ q, q < b → u1.heap[q]? = u.heap[q]?) : Shows u1 sa n c k xs :=
  ⟨h.length, h.none, fun a ha j v hj => by
    have h1 := h.cells a ha j v hj
    have hbk : (a.add j).block = a.block := by unfold Addr.add; split <;> rfl
    rw [World.cell?_of_block (hu _ (by rw [hbk]; exact hb a ha))]
    exact h1, h.one⟩

theorem rq_later {w u u1 : World} {g gb : Nat} {d : Array Ent} {sa : Option Addr} {sn sc i j : Nat} {Lv Kv : Value} (h : Rq w u g gb d sa sn sc i j Lv Kv) (hu : Below u.heap.size u u1) : Rq w u1 g gb d sa sn sc i j Lv Kv := by
  have h1 := h.size
  have h2 := h.low
  exact ⟨(hu.block g (by omega)).trans h.at0, (hu.block gb (by omega)).trans h.box, h.low, Nat.le_trans h.size hu.size, h.below.trans (hu.mono (by omega)), shows_to h.shows h.sblk (fun q hq => hu.block q (by omega)), h.sblk, own_below h.keys hu, own_below h.els hu⟩

theorem rq_key {w u u1 : World} {g gb : Nat} {d : Array Ent} {sa : Option Addr} {sn sc i j : Nat} {Lv Kv Kv' : Value} (h : Rq w u g gb d sa sn sc i j Lv Kv) (ok : u1.ownsRow (gb + 1) 9 1 Kv' (i + 1) (keyR d (i + 1))) (gk : u.grownBy u1 Kv.ownBlock) :
    Rq w (u1.setCell ⟨gb, 4, none⟩ Kv') g gb d sa sn sc (i + 1) j Lv Kv' := by
  have h1 := h.size
  have h2 := h.low
  have hB : Below (gb + 1) u u1 := (Below.refl _ _).grown gk h.size (fun k e => (h.keys.lt k e).1)
  have hb1 := (hB.block gb (by omega)).trans h.box
  have hS : Below gb u1 (u1.setCell ⟨gb, 4, none⟩ Kv') := (Below.refl _ _).setCell (p := ⟨gb, 4, none⟩) (Nat.le_refl _) _
  have hA : Below gb u (u1.setCell ⟨gb, 4, none⟩ Kv') := (hB.mono (by omega)).trans hS
  refine ⟨(hA.block g h2).trans h.at0, (set_box hb1 _).1, h2, Nat.le_trans h1 hA.size, h.below.trans (hA.mono (by omega)), shows_to h.shows h.sblk (fun q hq => hA.block q hq), h.sblk, own_to5 ok (fun b e => heap_setCell_other _ _ _ _ (by have := (ok.lt b e).1; show b ≠ gb; omega)), ?_⟩
  have e1 := own_to5 h.els (fun b e => gk.block b (h.els.lt b e).2 (own_two h.els h.keys (by decide) e))
  exact own_to5 e1 (fun b e => heap_setCell_other _ _ _ _ (by have := (e1.lt b e).1; show b ≠ gb; omega))

theorem rq_el {w u u1 : World} {g gb : Nat} {d : Array Ent} {sa : Option Addr} {sn sc i j : Nat} {Lv Kv Lv' : Value} (h : Rq w u g gb d sa sn sc i j Lv Kv) (ol : u1.ownsRow (gb + 1) 27 5 Lv' (j + 1) (flat (elR d) (j + 1))) (gl : u.grownBy u1 Lv.ownBlock) :
    Rq w (u1.setCell ⟨gb, 3, none⟩ Lv') g gb d sa sn sc i (j + 1) Lv' Kv := by
  have h1 := h.size
  have h2 := h.low
  have hB : Below (gb + 1) u u1 := (Below.refl _ _).grown gl h.size (fun k e => (h.els.lt k e).1)
  have hb1 := (hB.block gb (by omega)).trans h.box
  have hS : Below gb u1 (u1.setCell ⟨gb, 3, none⟩ Lv') := (Below.refl _ _).setCell (p := ⟨gb, 3, none⟩) (Nat.le_refl _) _
  have hA : Below gb u (u1.setCell ⟨gb, 3, none⟩ Lv') := (hB.mono (by omega)).trans hS
  refine ⟨(hA.block g h2).trans h.at0, (set_box hb1 _).2, h2, Nat.le_trans h1 hA.size, h.below.trans (hA.mono (by omega)), shows_to h.shows h.sblk (fun q hq => hA.block q hq), h.sblk, ?_, own_to5 ol (fun b e => heap_setCell_other _ _ _ _ (by have := (ol.lt b e).1; show b ≠ gb; omega))⟩
  have e1 := own_to5 h.keys (fun b e => gl.block b (h.keys.lt b e).2 (own_two h.keys h.els (by decide) e))
  exact own_to5 e1 (fun b e => heap_setCell_other _ _ _ _ (by have := (e1.lt b e).1; show b ≠ gb; omega))

/-- an entry's six cells, out of the sorted row -/
theorem rq_cells {u : World} {d : Array Ent} {a : Addr} {sn sc i : Nat} (h : Shows u (some a) sn sc 6 (Go.Sort.flatK encE 6 d).toList) (hi : i < d.size) : ∀ j v, (encE d[i]!)[j]? = some v → u.cell? ((a.add (i * 6)).add j) = some v := fun j v hv => by
  have hj : j < 6 := (List.getElem?_eq_some_iff.1 hv).1
  have ha : (a.add (i * 6)).add j = a.add (i * 6 + j) := add_add5 a _ _
  rw [ha]
  refine h.cells a rfl _ v ?_
  have hs : i * 6 + j < (Go.Sort.flatK encE 6 d).size := by rw [Go.Sort.size_flatK]; omega
  have h2 := Go.Sort.get_flatK encE 6 d (i * 6 + j) (by omega)
  rw [show (i * 6 + j) / 6 = i by omega, show (i * 6 + j) % 6 = j by omega, getElem!_pos (Go.Sort.flatK encE 6 d) (i * 6 + j) hs] at h2
  rw [Array.getElem?_toList, Array.getElem?_eq_getElem hs, h2]
  rw [List.getElem!_eq_getElem?_getD, hv]
  rfl
end Go.Proofs.Ytcopkhmmpamboaa

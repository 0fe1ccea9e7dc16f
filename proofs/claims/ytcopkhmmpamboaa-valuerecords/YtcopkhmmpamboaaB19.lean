/-
  slices.Clone of entries: the same cells in new memory; conditions: the form's own reach.
  slices.SortFunc on entries in a row of the call's own; no other conditions.
  What Record keeps while it walks: the sorted entries, the record that is made; no conditions.
-/
import Derived.Test.YtcopkhmmpamboaaB14
import Derived.Test.YtcopkhmmpamboaaB18
import Derived.Shelf.SlSortCmp.NoneTotal
import Derived.Laws.OwnMore
import Derived.Test.YtcopkhmmpamboaaB15
namespace Go.Proofs.Ytcopkhmmpamboaa
open Go.RowKit
set_option linter.unusedVariables false
set_option linter.unusedSimpArgs false

theorem infoEc : (Try.prog.info? 29).map (fun i => (i.zero, i.size, i.bytes)) = some (some (.agg #[.string ⟨#[]⟩, .int .i64 0, .int .i64 0, .string ⟨#[]⟩, .slice none 0 0, .slice none 0 0]), 6, 96) := by kernel_rfl

set_option maxRecDepth 100000 in
set_option maxHeartbeats 400000 in
theorem cloneE (ao : Option Addr) (len cap : Nat) (xs : List Value) (w : World) (h : Shows w ao len cap 6 xs) (hb : len * 96 ≤ 140737488355328) :
    Calls Try.prog 22 #[.slice ao len cap] w fun e w' => ∃ v', e = .returned v' ∧ w'.ownsRow w.heap.size 29 6 v' len xs ∧ Below w.heap.size w w' := by
  cases ao with
  | none =>
    obtain ⟨rfl, rfl⟩ := h.none rfl
    obtain rfl : xs = [] := List.eq_nil_of_length_eq_zero (by simpa using h.length)
    clear h
    have he : ∀ w : World, (binOp .eql 22 (.slice none 0 0) (.slice none 0 0)).run Try.prog w = .ok (.bool true) w := fun _ => rfl
    go_enter Try.func22, Try.ntmps22
    go_wp2_with fail
    go_ret
    exact ⟨_, rfl, World.ownsRow_nil _ _ _ _, Below.refl _ _⟩
  | some a =>
    obtain ⟨i0, hi, hz0, hz1, hz2⟩ := info_parts infoEc
    have HI := hide (And.intro hi (And.intro hz0 (And.intro hz1 hz2)))
    have B1 : Below w.heap.size w (w.alloc (.cells #[] 29)) := (Below.refl _ _).alloc (Nat.le_refl _) _
    have HB1 := hide B1
    have HM := hide (made0 w 29 6)
    have HC : Hid (∀ j u, xs[j]? = some u → (w.alloc (.cells #[] 29)).cell? (a.add j) = some u) := hide (fun j u hu => by
      have h1 := h.cells a rfl j u hu
      rw [B1.cell (World.block_lt_of_cell? _ _ (by rw [h1]))]
      exact h1)
    have HX := hide (And.intro h.length h.one)
    have he : ∀ w : World, (binOp .eql 22 (.slice (some a) len cap) (.slice none 0 0)).run Try.prog w = .ok (.bool false) w := fun _ => rfl
    clear hi hz0 hz1 hz2 B1 h
    go_enter Try.func22, Try.ntmps22
    go_wp2_with (first | (at_builtin; refine wpList_append_own _ rfl (.tmp 5) (.tmp 6) 22 rfl w.heap.size 29 i0 (.agg #[.string ⟨#[]⟩, .int .i64 0, .int .i64 0, .string ⟨#[]⟩, .slice none 0 0, .slice none 0 0]) 6 96 Try.underlying22 (unhide HI).1 (unhide HI).2.1 (unhide HI).2.2.1 (unhide HI).2.2.2 rfl (by omega) _ 0 [] rfl (unhide HM) a len cap xs rfl (unhide HX).1 (unhide HC) (unhide HX).2 (by unfold maxLen; omega) (by omega) (by simp) ?_; intro v2 w2 hown2 hgrow2 _; have H2 := hide (And.intro hown2 hgrow2); clear hown2 hgrow2))
    go_ret
    obtain ⟨ho, hg⟩ := unhide H2
    refine ⟨_, rfl, by simpa using ho, (unhide HB1).grown hg (by simp) (fun k hk => ?_)⟩
    cases hk
    exact Nat.le_refl _
end Go.Proofs.Ytcopkhmmpamboaa

namespace Go.Proofs.Ytcopkhmmpamboaa
open Go.RowKit Go.Shelf Go.Lib Go.Sort
set_option linter.unusedVariables false
set_option linter.unusedSimpArgs false

theorem sorted_below (base b n : Nat) (d : Array Ent) (w : World) (os : Array Obj) (hb : base ≤ b) (hbs : b < w.heap.size) : Go.RowKit.Below base w (sortWorldK encE 6 w b 0 n d os) := by
  refine ⟨rfl, rfl, rfl, size_sortWorldK_c encE 6 w b 0 n d os, fun k hk => ?_⟩
  unfold sortWorldK putRowK putRow mapBlock grow Sort.ahead
  simp only
  rw [Array.getElem?_append_left (by rw [Array.size_modify]; omega), Array.getElem?_modify, if_neg (by omega)]

set_option maxHeartbeats 1000000 in
theorem sort_any (base cap : Nat) (ao : Option Addr) (d : Array Ent) (w : World) (ho : w.ownsRow base 29 6 (.slice ao d.size cap) d.size (flatK encE 6 d).toList) (hsz : d.size ≤ 2048) :
    Calls Try.prog 23 #[.slice ao d.size cap, .func (.func 24) #[] #[]] w fun e w' => e = .returned (.tuple #[]) ∧ Go.RowKit.Below base w w' ∧ ∃ d' : Array Ent, d'.size = d.size ∧ d'.toList.Perm d.toList ∧ (∀ i j, i < j → j < d.size → bl d'[j]!.1 d'[i]!.1 = false) ∧ Shows w' ao d.size cap 6 (flatK encE 6 d').toList := by
  have hone : ∀ d' : Array Ent, ∀ u ∈ (flatK encE 6 d').toList, u.oneCell' = true := fun d' u hu => by
    obtain ⟨t, ht⟩ := List.getElem?_of_mem hu
    have h1 := (List.getElem?_eq_some_iff.1 ht).1
    rw [Array.length_toList, size_flatK] at h1
    have h2 := get_flatK encE 6 d' t h1
    have h3 : (flatK encE 6 d')[t]! = u := by
      rw [getElem!_pos _ t (by rw [size_flatK]; exact h1)]
      rw [Array.getElem?_toList, Array.getElem?_eq_getElem (by rw [size_flatK]; exact h1)] at ht
      exact Option.some.inj ht
    rw [← h3, h2]
    have hm : t % 6 < 6 := Nat.mod_lt _ (by omega)
    generalize t % 6 = q at hm
    match q, hm with
    | 0, _ => rfl
    | 1, _ => rfl
    | 2, _ => rfl
    | 3, _ => rfl
    | 4, _ => rfl
    | 5, _ => rfl
  generalize hv : Value.slice ao d.size cap = v at ho
  rcases ho.2 with ⟨rfl, h0⟩ | ⟨b, c, cur, rfl, hb, hg, _⟩
  · simp only [Value.slice.injEq] at hv
    obtain ⟨rfl, _, rfl⟩ := hv
    refine (AnyF.slices_SortFunc_none sortEnt none 0 _ w).mono ?_
    rintro e w' ⟨rfl, rfl⟩
    refine ⟨rfl, Go.RowKit.Below.refl _ _, d, rfl, List.Perm.refl _, fun i j h1 h2 => by omega, ⟨ho.1, fun _ => ⟨h0, rfl⟩, fun a ha => by (cases ha), hone d⟩⟩
  · cases hv
    have hbs : b < w.heap.size := (ho.lt b rfl).2
    have hH : HoldsK encE 6 w b 0 d := fun j hj => by
      rw [size_flatK] at hj
      rw [Nat.zero_add]
      refine ⟨?_, ho.frozenAt j⟩
      rw [ho.cellAt j hj, Array.getElem?_toList, Array.getElem?_eq_getElem (by rw [size_flatK]; exact hj), getElem!_pos _ j (by rw [size_flatK]; exact hj)]
      rfl
    refine (sortE b 0 cap d w hH hbs (by omega)).mono ?_
    rintro e w' ⟨rfl, d', n, os, hp, hs, rfl⟩
    have hsd := hp.1
    refine ⟨rfl, sorted_below base b n d' w os hb hbs, d', hsd, ?_, fun i j h1 h2 => ?_, ⟨by rw [Array.length_toList, size_flatK, hsd], fun e => by (cases e), fun a ha j u hu => ?_, hone d'⟩⟩
    · have h1 := hp.2.2
      rw [← hsd, Array.extract_size, hsd, Array.extract_size] at h1
      exact h1
    · have h3 := hs i j (Nat.zero_le _) h1 h2
      rw [ltE] at h3
      exact h3
    · cases ha
      have hH' := holdsK_sortWorldK_c encE 6 w b 0 d d' n os hH hbs hsd
      have hj := (List.getElem?_eq_some_iff.1 hu).1
      rw [Array.length_toList] at hj
      have h4 := (hH' j hj).1
      rw [Array.getElem?_toList, Array.getElem?_eq_getElem hj] at hu
      rw [Nat.zero_add, getElem!_pos _ j hj] at h4
      have ea : (⟨b, 0, none⟩ : Addr).add j = ⟨b, j, none⟩ := by unfold Addr.add; split <;> simp_all
      rw [ea, h4, ← hu]
      rfl
end Go.Proofs.Ytcopkhmmpamboaa

namespace Go.Proofs.Ytcopkhmmpamboaa
open Go.RowKit
set_option linter.unusedVariables false
set_option linter.unusedSimpArgs false

/-- an entry's value, as its cells -/
def valE (x : Ent) : List Value := [.int .i64 x.2.1, .int .i64 x.2.2.1, .string x.2.2.2.1, .slice x.2.2.2.2.1.1 x.2.2.2.2.1.2.1 x.2.2.2.2.1.2.2, .slice x.2.2.2.2.2.1 x.2.2.2.2.2.2.1 x.2.2.2.2.2.2.2]

/-- the keys, the values so far -/
def keyR (d : Array Ent) (i : Nat) : List Value := (d.toList.take i).map (fun x => Value.string x.1)
def elR (d : Array Ent) : Nat → List Value := fun c => valE d[c]!

theorem keyR_succ (d : Array Ent) (i : Nat) (h : i < d.size) : keyR d (i + 1) = keyR d i ++ [.string d[i]!.1] := by
  unfold keyR
  rw [List.take_add_one, List.map_append, Array.getElem?_toList, Array.getElem?_eq_getElem h, getElem!_pos d i h]
  rfl

theorem elR_succ (d : Array Ent) (i : Nat) : flat (elR d) (i + 1) = flat (elR d) i ++ valE d[i]! := by
  have hV : ∀ n, ∀ c, c < n → (elR d c).length = 5 := fun n c _ => rfl
  refine flat_ext (hV _) (by rw [List.length_append, flat_len (elR d) i (hV i)]; show i * 5 + 5 = _; omega) (fun c hc j hj => ?_)
  by_cases h : c < i
  · rw [List.getElem?_append_left (by rw [flat_len (elR d) i (hV i)]; omega)]
    exact flat_get (hV i) c j h hj
  · have hci : c = i := by omega
    subst hci
    rw [List.getElem?_append_right (by rw [flat_len (elR d) c (hV c)]; omega), flat_len (elR d) c (hV c), show c * 5 + j - c * 5 = j by omega]
    rfl

/-- how far Record is: i keys, j values -/
structure Rq (w u : World) (g gb : Nat) (d : Array Ent) (sa : Option Addr) (sn sc i j : Nat) (Lv Kv : Value) : Prop where
  at0 : u.heap[g]? = some (.cells #[.int .i64 0, .int .i64 0, .string ⟨#[]⟩, .slice none 0 0, .slice none 0 0] 27 (0, 0))
  box : u.heap[gb]? = some (.cells #[.int .i64 5, .int .i64 0, .string ⟨#[]⟩, Lv, Kv] 27 (0, 0))
  low : g < gb
  size : gb + 1 ≤ u.heap.size
  below : Below g w u
  shows : Shows u sa sn sc 6 (Go.Sort.flatK encE 6 d).toList
  sblk : ∀ a, sa = some a → a.block < gb
  keys : u.ownsRow (gb + 1) 9 1 Kv i (keyR d i)
  els : u.ownsRow (gb + 1) 27 5 Lv j (flat (elR d) j)

theorem shows_to {u u1 : World} {sa : Option Addr} {n c k b : Nat} {xs : List Value} (h : Shows u sa n c k xs) (hb : ∀ a, sa = some a → a.block < b) (hu : ∀ q, q < b → u1.heap[q]? = u.heap[q]?) : Shows u1 sa n c k xs :=
  ⟨h.length, h.none, fun a ha j v hj => by
    have h1 := h.cells a ha j v hj
    have hbk : (a.add j).block = a.block := by unfold Addr.add; split <;> rfl
    rw [World.cell?_of_block (hu _ (by rw [hbk]; exact hb a ha))]
    exact h1, h.one⟩

theorem rq_later {w u u1 : World} {g gb : Nat} {d : Array Ent} {sa : Option Addr} {sn sc i j : Nat} {Lv Kv : Value} (h : Rq w u g gb d sa sn sc i j Lv Kv) (hu : Below u.heap.size u u1) : Rq w u1 g gb d sa sn sc i j Lv Kv := by
  have h1 := h.size
  have h2 := h.low
  exact ⟨(hu.block g (by omega)).trans h.at0, (hu.block gb (by omega)).trans h.box, h.low, Nat.le_trans h.size hu.size, h.below.trans (hu.mono (by omega)), shows_to h.shows h.sblk (fun q hq => hu.block q (by omega)), h.sblk, own_below h.keys hu, own_below h.els hu⟩

theorem rq_key {w u u1 : World} {g gb : Nat} {d : Array Ent} {sa : Option Addr} {sn sc i j : Nat} {Lv Kv Kv' : Value} (h : Rq w u g gb d sa sn sc i j Lv Kv) (ok : u1.ownsRow (gb + 1) 9 1 Kv' (i + 1) (keyR d (i + 1))) (gk : u.grownBy u1 Kv.ownBlock) :
    Rq w (u1.setCell ⟨gb, 4, none⟩ Kv') g gb d sa sn sc (i + 1) j Lv Kv' := by
  have h1 := h.size
  have h2 := h.low
  have hB : Below (gb + 1) u u1 := (Below.refl _ _).grown gk h.size (fun k e => (h.keys.lt k e).1)
  have hb1 := (hB.block gb (by omega)).trans h.box
  have hS : Below gb u1 (u1.setCell ⟨gb, 4, none⟩ Kv') := (Below.refl _ _).setCell (p := ⟨gb, 4, none⟩) (Nat.le_refl _) _
  have hA : Below gb u (u1.setCell ⟨gb, 4, none⟩ Kv') := (hB.mono (by omega)).trans hS
  refine ⟨(hA.block g h2).trans h.at0, (set_box hb1 _).1, h2, Nat.le_trans h1 hA.size, h.below.trans (hA.mono (by omega)), shows_to h.shows h.sblk (fun q hq => hA.block q hq), h.sblk, own_to5 ok (fun b e => heap_setCell_other _ _ _ _ (by have := (ok.lt b e).1; show b ≠ gb; omega)), ?_⟩
  have e1 := own_to5 h.els (fun b e => gk.block b (h.els.lt b e).2 (own_two h.els h.keys (by decide) e))
  exact own_to5 e1 (fun b e => heap_setCell_other _ _ _ _ (by have := (e1.lt b e).1; show b ≠ gb; omega))

theorem rq_el {w u u1 : World} {g gb : Nat} {d : Array Ent} {sa : Option Addr} {sn sc i j : Nat} {Lv Kv Lv' : Value} (h : Rq w u g gb d sa sn sc i j Lv Kv) (ol : u1.ownsRow (gb + 1) 27 5 Lv' (j + 1) (flat (elR d) (j + 1))) (gl : u.grownBy u1 Lv.ownBlock) :
    Rq w (u1.setCell ⟨gb, 3, none⟩ Lv') g gb d sa sn sc i (j + 1) Lv' Kv := by
  have h1 := h.size
  have h2 := h.low
  have hB : Below (gb + 1) u u1 := (Below.refl _ _).grown gl h.size (fun k e => (h.els.lt k e).1)
  have hb1 := (hB.block gb (by omega)).trans h.box
  have hS : Below gb u1 (u1.setCell ⟨gb, 3, none⟩ Lv') := (Below.refl _ _).setCell (p := ⟨gb, 3, none⟩) (Nat.le_refl _) _
  have hA : Below gb u (u1.setCell ⟨gb, 3, none⟩ Lv') := (hB.mono (by omega)).trans hS
  refine ⟨(hA.block g h2).trans h.at0, (set_box hb1 _).2, h2, Nat.le_trans h1 hA.size, h.below.trans (hA.mono (by omega)), shows_to h.shows h.sblk (fun q hq => hA.block q hq), h.sblk, ?_, own_to5 ol (fun b e => heap_setCell_other _ _ _ _ (by have := (ol.lt b e).1; show b ≠ gb; omega))⟩
  have e1 := own_to5 h.keys (fun b e => gl.block b (h.keys.lt b e).2 (own_two h.keys h.els (by decide) e))
  exact own_to5 e1 (fun b e => heap_setCell_other _ _ _ _ (by have := (e1.lt b e).1; show b ≠ gb; omega))

/-- an entry's six cells, out of the sorted row -/
theorem rq_cells {u : World} {d : Array Ent} {a : Addr} {sn sc i : Nat} (h : Shows u (some a) sn sc 6 (Go.Sort.flatK encE 6 d).toList) (hi : i < d.size) : ∀ j v, (encE d[i]!)[j]? = some v → u.cell? ((a.add (i * 6)).add j) = some v := fun j v hv => by
  have hj : j < 6 := (List.getElem?_eq_some_iff.1 hv).1
  have ha : (a.add (i * 6)).add j = a.add (i * 6 + j) := add_add5 a _ _
  rw [ha]
  refine h.cells a rfl _ v ?_
  have hs : i * 6 + j < (Go.Sort.flatK encE 6 d).size := by rw [Go.Sort.size_flatK]; omega
  have h2 := Go.Sort.get_flatK encE 6 d (i * 6 + j) (by omega)
  rw [show (i * 6 + j) / 6 = i by omega, show (i * 6 + j) % 6 = j by omega, getElem!_pos (Go.Sort.flatK encE 6 d) (i * 6 + j) hs] at h2
  rw [Array.getElem?_toList, Array.getElem?_eq_getElem hs, h2]
  rw [List.getElem!_eq_getElem?_getD, hv]
  rfl
end Go.Proofs.Ytcopkhmmpamboaa

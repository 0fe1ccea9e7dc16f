/-
  The reader of wire: an array, by what a value within it is; conditions: the weight so far is at most 2048, the form's own reach.
-/
import Derived.Test.YtfdnhpmldnmncaaWRdS
import Derived.Test.YtfdnhpmldnmncaaWRd3
import Derived.Test.YtfdnhpmldnmncaaWMid
import Derived.Test.YtfdnhpmldnmncaaWTill
import Derived.Deep.RegionHeld3
namespace Go.Proofs.Ytfdnhpmldnmncaa
open Go.RowKit

theorem infoVv : (Try.prog.info? 51).map (fun i => (i.zero, i.size, i.bytes)) = some (some (.agg #[.int .i64 0, .int .i64 0, .string ⟨#[]⟩, .slice none 0 0, .slice none 0 0]), 5, 80) := by kernel_rfl

theorem Mid.beside {w w' : World} {base gb gr : Nat} {k n : Int} {s : ByteArray} {l : List Vl} {ks : List ByteArray} {Lv Kv : Value} {i j : Nat} {V : Nat → List Value} (h : Mid w base gb k n s l ks Lv Kv i j V) (hb : Beside gr w w') (hg : gr ≠ gb) (hr : gr < base) : Mid w' base gb k n s l ks Lv Kv i j V where
  box := (hb.block gb (Nat.lt_of_lt_of_le h.below h.size) (Ne.symm hg)).trans h.box
  below := h.below
  size := Nat.le_trans h.size hb.size
  ownL := own_later h.ownL (fun b hl e => hb.block b hl (by have := (h.ownL.lt b e).1; omega))
  ownK := own_later h.ownK (fun b hl e => hb.block b hl (by have := (h.ownK.lt b e).1; omega))
  apart := h.apart
  row := h.row
  el := fun c y hc hy => ((h.el c y hc hy).move (fun b hP => hb.block b hP.2.1 (by have := hP.1; omega))).weak (fun _ hP => ⟨hP.1, Nat.lt_of_lt_of_le hP.2.1 hb.size, hP.2.2⟩)

theorem Mid.moreL {w : World} {base gb : Nat} {k n : Int} {s : ByteArray} {l : List Vl} {ks : List ByteArray} {Lv Kv : Value} {i j : Nat} {V : Nat → List Value} (h : Mid w base gb k n s l ks Lv Kv i j V) (hl : l.length = i) (r : List Vl) : Mid w base gb k n s (l ++ r) ks Lv Kv i j V :=
  { h with el := fun c y hc hy => h.el c y hc (by rw [List.getElem?_append_left (by omega)] at hy; exact hy) }

theorem Mid.moreK {w : World} {base gb : Nat} {k n : Int} {s : ByteArray} {l : List Vl} {ks : List ByteArray} {Lv Kv : Value} {i j : Nat} {V : Nat → List Value} (h : Mid w base gb k n s l ks Lv Kv i j V) (hk : ks.length = j) (r : List ByteArray) : Mid w base gb k n s l (ks ++ r) Lv Kv i j V :=
  { h with ownK := by rw [List.take_append_of_le_length (by omega)]; exact h.ownK }

/-- how a reader's call ends -/
def Res (gr : Nat) (bv : Value) (w : World) (r : Except (Int × Int) (Vl × Nat × Nat)) (e : Ending) (w' : World) : Prop :=
  match r with
  | .error p => e = fault p.1 p.2 ∧ Beside gr w w'
  | .ok (v, a', t') => ∃ x, e = .returned x ∧ IsP w' (fun b => w.heap.size ≤ b ∧ b < w'.heap.size) v x ∧ Rdr w' gr bv a' t' ∧ Beside gr w w'

def ValAt (zs : List Int) (d : Nat) : Prop := ∀ (gr : Nat) (ao : Option Addr) (len cap a t : Nat) (w : World), Rdr w gr (.slice ao len cap) a t → Src w gr ao len cap zs → a ≤ len → t ≤ 2048 → d ≤ 8 →
    Calls Try.prog 78 #[.pointer (some ⟨gr, 0, none⟩), .int .i64 (8 - (d : Int))] w fun e w' => Res gr (.slice ao len cap) w (rdV zs d a t) e w'

/-- what is kept beside the value that is made -/
structure Ar (w u : World) (gr g : Nat) (Z : Array Value) : Prop where
  at0 : u.heap[g]? = some (.cells Z 51 (0, 0))
  size : g + 2 ≤ u.heap.size
  beside : Beside gr w u
  top : w.heap.size = g
  low : gr < g

theorem Ar.later {w u u1 : World} {gr g : Nat} {Z : Array Value} (h : Ar w u gr g Z) (hu : Beside gr u u1) : Ar w u1 gr g Z := by
  have hs := h.size
  have hl := h.low
  exact ⟨(hu.block g (by omega) (by omega)).trans h.at0, Nat.le_trans h.size hu.size, h.beside.trans hu, h.top, h.low⟩

theorem Ar.push {w u w6 : World} {gr g f : Nat} {Z : Array Value} {row : Option Nat} {v : Value} (h : Ar w u gr g Z) (hgrow : u.grownBy w6 row) (hrow : ∀ b, row = some b → g + 2 ≤ b) : Ar w (w6.setCell ⟨g + 1, f, none⟩ v) gr g Z := by
  have hs := h.size
  have hl := h.low
  have ht := h.top
  have hg := hgrow.size
  have bb := ((Below.refl g u).grown hgrow (by omega) (fun b hb => by have := hrow b hb; omega)).setCell (p := ⟨g + 1, f, none⟩) (by simp) v
  refine ⟨?_, by simp; omega, ⟨bb.os.trans h.beside.os, bb.tape.trans h.beside.tape, bb.output.trans h.beside.output, Nat.le_trans h.beside.size bb.size, fun k hk hn => (bb.block k (by omega)).trans (h.beside.block k hk hn)⟩, h.top, h.low⟩
  rw [heap_setCell_other _ _ _ _ (by simp), hgrow.block g (by omega) (fun e => by have := hrow g e.symm; omega)]
  exact h.at0

theorem ar_start (w : World) (Z : Array Value) (k : Int) (l : List Vl) (ks : List ByteArray) (gr g : Nat) (hg : w.heap.size = g) (hr : gr < g) :
    Ar w ((w.alloc (.cells Z 51)).alloc (.cells #[.int .i64 k, .int .i64 0, .string ⟨#[]⟩, .slice none 0 0, .slice none 0 0] 51)) gr g Z ∧
    Mid ((w.alloc (.cells Z 51)).alloc (.cells #[.int .i64 k, .int .i64 0, .string ⟨#[]⟩, .slice none 0 0, .slice none 0 0] 51)) (g + 2) (g + 1) k 0 ⟨#[]⟩ l ks (.slice none 0 0) (.slice none 0 0) 0 0 (fun _ => []) := by
  subst hg
  have h1 := heap_alloc_new (w.alloc (.cells Z 51)) (.cells #[.int .i64 k, .int .i64 0, .string ⟨#[]⟩, .slice none 0 0, .slice none 0 0] 51)
  have h0 := heap_alloc_new w (.cells Z 51)
  have b1 := (Below.refl (w.alloc (.cells Z 51)).heap.size (w.alloc (.cells Z 51))).alloc (Nat.le_refl _) (.cells #[.int .i64 k, .int .i64 0, .string ⟨#[]⟩, .slice none 0 0, .slice none 0 0] 51)
  refine ⟨⟨?_, by simp, Beside.of_below (((Below.refl _ _).alloc (Nat.le_refl _) _).alloc (by simp) _), rfl, hr⟩, ?_, by omega, by simp, World.ownsRow_nil _ _ _ _, World.ownsRow_nil _ _ _ _, Or.inl rfl, fun c h => by omega, fun c y h => by omega⟩
  · rw [b1.block w.heap.size (by simp)]; exact h0
  · simpa using h1

theorem Beside.at_drew {gr : Nat} {w w' : World} (h : Beside gr w.drew w') : Beside gr w w' := ⟨h.os, h.tape, h.output, h.size, h.block⟩
theorem Rdr.beside {w w' : World} {gr g : Nat} {bv : Value} {p t : Int} (h : Rdr w g bv p t) (hb : Beside gr w w') (hn : g ≠ gr) : Rdr w' g bv p t := (hb.block g h.lt hn).trans h
theorem Beside.cell {gr : Nat} {w w' : World} (h : Beside gr w w') {p : Addr} {x : Value} (hn : p.block ≠ gr) (hc : w.cell? p = some x) : w'.cell? p = some x := by
  rw [World.cell?_of_block (h.block p.block (World.block_lt_of_cell? _ _ (by rw [hc])) hn)]; exact hc
end Go.Proofs.Ytfdnhpmldnmncaa

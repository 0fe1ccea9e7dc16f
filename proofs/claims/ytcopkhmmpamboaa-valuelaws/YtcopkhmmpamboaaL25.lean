/-
  What With keeps while it walks: the record that is made, its rows the call's own; no conditions.
-/
import Derived.Test.YtcopkhmmpamboaaL23
import Derived.Test.YtcopkhmmpamboaaL19
import Derived.Test.YtcopkhmmpamboaaL24
namespace Go.Proofs.Ytcopkhmmpamboaa
open Go.RowKit
set_option linter.unusedVariables false
set_option linter.unusedSimpArgs false

theorem add_add5 (a : Addr) (p q : Nat) : (a.add p).add q = a.add (p + q) := by
  unfold Addr.add
  by_cases hp : p = 0 <;> by_cases hq : q = 0 <;> simp [hp, hq, Nat.add_assoc]

/-- what With keeps: the record, what is to be put, the answer's place -/
structure Wz (w u : World) (g : Nat) (A X Z : Array Value) : Prop where
  at0 : u.heap[g]? = some (.cells A 27 (0, 0))
  at1 : u.heap[g + 1]? = some (.cells X 27 (0, 0))
  at2 : u.heap[g + 2]? = some (.cells Z 27 (0, 0))
  size : g + 3 ≤ u.heap.size
  below : Below g w u

theorem Wz.later {w u u1 : World} {g : Nat} {A X Z : Array Value} (h : Wz w u g A X Z) (hu : Below u.heap.size u u1) : Wz w u1 g A X Z := by
  have hs := h.size
  exact ⟨(hu.block g (by omega)).trans h.at0, (hu.block (g + 1) (by omega)).trans h.at1, (hu.block (g + 2) (by omega)).trans h.at2, Nat.le_trans h.size hu.size, h.below.trans (hu.mono (by omega))⟩

theorem Wz.to {w u u1 : World} {g : Nat} {A X Z : Array Value} (h : Wz w u g A X Z) (hu : Below (g + 3) u u1) : Wz w u1 g A X Z :=
  ⟨(hu.block g (by omega)).trans h.at0, (hu.block (g + 1) (by omega)).trans h.at1, (hu.block (g + 2) (by omega)).trans h.at2, Nat.le_trans h.size hu.size, h.below.trans (hu.mono (by omega))⟩

/-- the record that is made, its rows the call's own -/
structure W7 (w u : World) (g gb : Nat) (A X Z : Array Value) (KL FL : List Value) (m ln : Nat) (ka : Option Addr) (kc : Nat) (la : Option Addr) (lc : Nat) : Prop where
  box : u.heap[gb]? = some (.cells #[.int .i64 5, .int .i64 0, .string ⟨#[]⟩, .slice la ln lc, .slice ka m kc] 27 (0, 0))
  low : g + 3 ≤ gb
  wz : Wz w u g A X Z
  keys : u.ownsRow (g + 3) 9 1 (.slice ka m kc) m KL
  els : u.ownsRow (g + 3) 27 5 (.slice la ln lc) ln FL
  apL : ∀ b, (Value.slice la ln lc).ownBlock = some b → b ≠ gb
  apK : ∀ b, (Value.slice ka m kc).ownBlock = some b → b ≠ gb

theorem w7_store {w u : World} {g gb : Nat} {A X Z : Array Value} {KL FL : List Value} {m ln : Nat} {ka : Option Addr} {kc : Nat} {la : Option Addr} {lc : Nat} {z0 z1 z2 z3 z4 : Value}
    (hb : u.heap[gb]? = some (.cells #[z0, z1, z2, z3, z4] 27 (0, 0))) (hlow : g + 3 ≤ gb) (hz : Wz w u g A X Z) (hk : u.ownsRow (g + 3) 9 1 (.slice ka m kc) m KL) (hl : u.ownsRow (g + 3) 27 5 (.slice la ln lc) ln FL) (aL : ∀ b, (Value.slice la ln lc).ownBlock = some b → b ≠ gb) (aK : ∀ b, (Value.slice ka m kc).ownBlock = some b → b ≠ gb) :
    W7 w (((((u.setCell ⟨gb, 0, none⟩ (.int .i64 5)).setCell ⟨gb, 1, none⟩ (.int .i64 0)).setCell ⟨gb, 2, none⟩ (.string ⟨#[]⟩)).setCell ⟨gb, 3, none⟩ (.slice la ln lc)).setCell ⟨gb, 4, none⟩ (.slice ka m kc)) g gb A X Z KL FL m ln ka kc la lc := by
  have R := five_set u gb 27 _ _ _ _ _ (.int .i64 5) (.int .i64 0) (.string ⟨#[]⟩) (.slice la ln lc) (.slice ka m kc) hb
  have O := five_other u gb (x0 := .int .i64 5) (x1 := .int .i64 0) (x2 := .string ⟨#[]⟩) (x3 := .slice la ln lc) (x4 := .slice ka m kc)
  exact ⟨R, hlow, hz.to (five_below (Below.refl _ _) hlow _ _ _ _ _), own_to5 hk (fun b e => O b (aK b e)), own_to5 hl (fun b e => O b (aL b e)), aL, aK⟩

theorem own_isK {w : World} {base : Nat} {ak : Option Addr} {m ck : Nat} {ks : List ByteArray} (hk : w.ownsRow base 9 1 (.slice ak m ck) m (ks.map Value.string)) (b : m ≤ 140737488351232) (sm : ∀ t ∈ ks, t.size ≤ 140737488351232) : IsK w ks ak ck ∧ ks.length = m := by
  have hkl : ks.length = m := by have := hk.1; simpa using this
  refine ⟨?_, hkl⟩
  have hk2 := hk.2
  generalize hkv : Value.slice ak m ck = kv at hk hk2
  rcases hk2 with ⟨rfl, rfl⟩ | ⟨g, c, cur, rfl, hb, hg, hc, _⟩
  · cases hkv
    exact ⟨fun _ => hkl, by omega, by omega, fun a h => by (cases h), sm⟩
  · cases hkv
    exact ⟨fun e => by (cases e), by omega, by omega, fun a h i t ht => by
      cases h
      exact hk.cells (g := g) rfl i _ (by rw [List.getElem?_map, ht]; rfl), sm⟩

theorem w7_lt {w u : World} {g gb : Nat} {A X Z : Array Value} {KL FL : List Value} {m ln : Nat} {ka : Option Addr} {kc : Nat} {la : Option Addr} {lc : Nat} (h : W7 w u g gb A X Z KL FL m ln ka kc la lc) : gb < u.heap.size := by
  obtain ⟨hl, _⟩ := Array.getElem?_eq_some_iff.1 h.box
  exact hl

theorem w7_later {w u u1 : World} {g gb : Nat} {A X Z : Array Value} {KL FL : List Value} {m ln : Nat} {ka : Option Addr} {kc : Nat} {la : Option Addr} {lc : Nat} (h : W7 w u g gb A X Z KL FL m ln ka kc la lc) (hu : Below u.heap.size u u1) : W7 w u1 g gb A X Z KL FL m ln ka kc la lc :=
  ⟨(hu.block gb (w7_lt h)).trans h.box, h.low, h.wz.later hu, own_below h.keys hu, own_below h.els hu, h.apL, h.apK⟩

/-- rows of two types lie in two blocks -/
theorem own_two {u : World} {base s t n m : Nat} {d e : TypeId} {v x : Value} {F G : List Value} (h : u.ownsRow base d s v n F) (k : u.ownsRow base e t x m G) (hde : d ≠ e) {b : Nat} (hb : v.ownBlock = some b) : some b ≠ x.ownBlock := by
  intro hx
  rcases h.2 with ⟨rfl, _⟩ | ⟨g, cap, cur, rfl, _, hg, _⟩
  · cases hb
  · rcases k.2 with ⟨rfl, _⟩ | ⟨g2, cap2, cur2, rfl, _, hg2, _⟩
    · cases hx
    · have e1 : g = b := Option.some.inj hb
      have e2 : b = g2 := Option.some.inj hx
      subst e1
      subst e2
      rw [hg] at hg2
      have e3 := Option.some.inj hg2
      cases e3
      exact hde rfl

theorem set_box {u : World} {gb : Nat} {y0 y1 y2 y3 y4 : Value} (h : u.heap[gb]? = some (.cells #[y0, y1, y2, y3, y4] 27 (0, 0))) (v : Value) :
    (u.setCell ⟨gb, 4, none⟩ v).heap[gb]? = some (.cells #[y0, y1, y2, y3, v] 27 (0, 0)) ∧ (u.setCell ⟨gb, 3, none⟩ v).heap[gb]? = some (.cells #[y0, y1, y2, v, y4] 27 (0, 0)) :=
  ⟨heap_setCell_same u gb 4 _ _ v h, heap_setCell_same u gb 3 _ _ v h⟩

theorem w7_key {w u u1 : World} {g gb : Nat} {A X Z : Array Value} {KL FL KL' : List Value} {m ln m' : Nat} {ka ka' : Option Addr} {kc kc' : Nat} {la : Option Addr} {lc : Nat} (h : W7 w u g gb A X Z KL FL m ln ka kc la lc)
    (ok : u1.ownsRow (g + 3) 9 1 (.slice ka' m' kc') m' KL') (gk : Grew u u1 (.slice ka m kc) (.slice ka' m' kc')) : W7 w (u1.setCell ⟨gb, 4, none⟩ (.slice ka' m' kc')) g gb A X Z KL' FL m' ln ka' kc' la lc := by
  have hlt := w7_lt h
  have hB : Below (g + 3) u u1 := (Below.refl _ _).grown gk.grown h.wz.size (fun k e => (h.keys.lt k e).1)
  have b1 : u1.heap[gb]? = _ := (gk.far hlt (fun e => h.apK gb e.symm rfl)).trans h.box
  have e1 := own_to5 h.els (fun b e => gk.far (h.els.lt b e).2 (own_two h.els h.keys (by decide) e))
  have aK : ∀ b, (Value.slice ka' m' kc').ownBlock = some b → b ≠ gb := fun b e => by
    rcases gk.row b e with h' | h'
    · exact h.apK b h'
    · omega
  exact ⟨(set_box b1 _).1, h.low, (h.wz.to hB).to ((Below.refl _ _).setCell (p := ⟨gb, 4, none⟩) h.low _), own_to5 ok (fun b e => heap_setCell_other _ _ _ _ (aK b e)), own_to5 e1 (fun b e => heap_setCell_other _ _ _ _ (h.apL b e)), h.apL, aK⟩

theorem w7_els {w u u1 : World} {g gb : Nat} {A X Z : Array Value} {KL FL FL' : List Value} {m ln ln' : Nat} {ka : Option Addr} {kc : Nat} {la la' : Option Addr} {lc lc' : Nat} (h : W7 w u g gb A X Z KL FL m ln ka kc la lc)
    (ol : u1.ownsRow (g + 3) 27 5 (.slice la' ln' lc') ln' FL') (gl : Grew u u1 (.slice la ln lc) (.slice la' ln' lc')) : W7 w (u1.setCell ⟨gb, 3, none⟩ (.slice la' ln' lc')) g gb A X Z KL FL' m ln' ka kc la' lc' := by
  have hlt := w7_lt h
  have hB : Below (g + 3) u u1 := (Below.refl _ _).grown gl.grown h.wz.size (fun k e => (h.els.lt k e).1)
  have b1 : u1.heap[gb]? = _ := (gl.far hlt (fun e => h.apL gb e.symm rfl)).trans h.box
  have e1 := own_to5 h.keys (fun b e => gl.far (h.keys.lt b e).2 (own_two h.keys h.els (by decide) e))
  have aL : ∀ b, (Value.slice la' ln' lc').ownBlock = some b → b ≠ gb := fun b e => by
    rcases gl.row b e with h' | h'
    · exact h.apL b h'
    · omega
  exact ⟨(set_box b1 _).2, h.low, (h.wz.to hB).to ((Below.refl _ _).setCell (p := ⟨gb, 3, none⟩) h.low _), own_to5 e1 (fun b e => heap_setCell_other _ _ _ _ (h.apK b e)), own_to5 ol (fun b e => heap_setCell_other _ _ _ _ (aL b e)), aL, h.apK⟩

theorem w7_set {w u : World} {g gb b L : Nat} {A X Z : Array Value} {KL FL : List Value} {m ln : Nat} {ka : Option Addr} {kc lc : Nat} (h : W7 w u g gb A X Z KL FL m ln ka kc (some ⟨b, 0, none⟩) lc) (x0 x1 x2 x3 x4 : Value) :
    W7 w (((((u.setCell ⟨b, L * 5, none⟩ x0).setCell ⟨b, L * 5 + 1, none⟩ x1).setCell ⟨b, L * 5 + 2, none⟩ x2).setCell ⟨b, L * 5 + 3, none⟩ x3).setCell ⟨b, L * 5 + 4, none⟩ x4) g gb A X Z KL (((((FL.set (L * 5) x0).set (L * 5 + 1) x1).set (L * 5 + 2) x2).set (L * 5 + 3) x3).set (L * 5 + 4) x4) m ln ka kc (some ⟨b, 0, none⟩) lc := by
  have s0 := h.els.stored (L * 5) x0
  have s1 := s0.1.stored (L * 5 + 1) x1
  have s2 := s1.1.stored (L * 5 + 2) x2
  have s3 := s2.1.stored (L * 5 + 3) x3
  have s4 := s3.1.stored (L * 5 + 4) x4
  have hb : g + 3 ≤ b := (h.els.lt b rfl).1
  have hO : ∀ q, q ≠ b → (((((u.setCell ⟨b, L * 5, none⟩ x0).setCell ⟨b, L * 5 + 1, none⟩ x1).setCell ⟨b, L * 5 + 2, none⟩ x2).setCell ⟨b, L * 5 + 3, none⟩ x3).setCell ⟨b, L * 5 + 4, none⟩ x4).heap[q]? = u.heap[q]? := fun q hq => by
    rw [heap_setCell_other _ _ _ _ hq, heap_setCell_other _ _ _ _ hq, heap_setCell_other _ _ _ _ hq, heap_setCell_other _ _ _ _ hq, heap_setCell_other _ _ _ _ hq]
  have hB : Below (g + 3) u (((((u.setCell ⟨b, L * 5, none⟩ x0).setCell ⟨b, L * 5 + 1, none⟩ x1).setCell ⟨b, L * 5 + 2, none⟩ x2).setCell ⟨b, L * 5 + 3, none⟩ x3).setCell ⟨b, L * 5 + 4, none⟩ x4) :=
    ((((((Below.refl _ _).setCell (p := ⟨b, L * 5, none⟩) hb x0).setCell (p := ⟨b, L * 5 + 1, none⟩) hb x1).setCell (p := ⟨b, L * 5 + 2, none⟩) hb x2).setCell (p := ⟨b, L * 5 + 3, none⟩) hb x3).setCell (p := ⟨b, L * 5 + 4, none⟩) hb x4)
  exact ⟨(hO gb (fun e => h.apL b rfl e.symm)).trans h.box, h.low, h.wz.to hB, own_to5 h.keys (fun q e => hO q (fun e2 => own_two h.keys h.els (by decide) e (by rw [e2]; rfl))), s4.1, h.apL, h.apK⟩

/-- the record that lies there, as a value -/
theorem w7_isV {w u : World} {g gb B : Nat} {A X Z : Array Value} {ks : List ByteArray} {V : Nat → List Value} {l : List Vl} {m ln : Nat} {ka : Option Addr} {kc : Nat} {la : Option Addr} {lc : Nat} (h : W7 w u g gb A X Z (ks.map Value.string) (flat V ln) m ln ka kc la lc) (hl : l.length = ln) (hV : ∀ i, i < ln → (V i).length = 5)
    (el : ∀ i y, l[i]? = some y → IsP w (fun b => b < B) y (.agg (V i).toArray)) (hB : B ≤ g) (hg : g ≤ w.heap.size) (b1 : ln ≤ 140737488351232) (b2 : 16 * m ≤ 140737488351232) (b3 : ∀ t ∈ ks, t.size ≤ 140737488351232) :
    IsV u u.heap.size (.mk 5 0 ⟨#[]⟩ l ks) (.agg #[.int .i64 5, .int .i64 0, .string ⟨#[]⟩, .slice la ln lc, .slice ka m kc]) :=
  isP_rows h.keys h.els hl hV (fun i y hy => (el i y hy).to (fun b hb => h.wz.below.block b (by omega)) (fun b hb => by have := h.wz.below.size; omega)) (fun b h1 h2 => h2) b1 b2 b3

end Go.Proofs.Ytcopkhmmpamboaa

/-
  What Without keeps while it walks: a copy whose rows get shorter; no conditions.
-/
import Derived.Test.YtcopkhmmpamboaaL31
import Derived.Test.YtcopkhmmpamboaaL25
namespace Go.Proofs.Ytcopkhmmpamboaa
open Go.RowKit
set_option linter.unusedVariables false
set_option linter.unusedSimpArgs false

/-- what Without keeps: the record, the answer's place -/
structure Wy (w u : World) (g : Nat) (A Z : Array Value) : Prop where
  at0 : u.heap[g]? = some (.cells A 27 (0, 0))
  at1 : u.heap[g + 1]? = some (.cells Z 27 (0, 0))
  size : g + 2 ≤ u.heap.size
  below : Below g w u

theorem Wy.to {w u u1 : World} {g : Nat} {A Z : Array Value} (h : Wy w u g A Z) (hu : Below (g + 2) u u1) : Wy w u1 g A Z :=
  ⟨(hu.block g (by omega)).trans h.at0, (hu.block (g + 1) (by omega)).trans h.at1, Nat.le_trans h.size hu.size, h.below.trans (hu.mono (by omega))⟩

theorem Wy.later {w u u1 : World} {g : Nat} {A Z : Array Value} (h : Wy w u g A Z) (hu : Below u.heap.size u u1) : Wy w u1 g A Z := h.to (hu.mono h.size)

def delF (V : Nat → List Value) (L : Nat) : Nat → List Value := fun i => if i < L then V i else V (i + 1)

theorem flat_del {V : Nat → List Value} {n L : Nat} (hV : ∀ i, i < n → (V i).length = 5) (hL : L < n) : flat (delF V L) (n - 1) = (flat V n).take (L * 5) ++ (flat V n).drop ((L + 1) * 5) := by
  have hf := flat_len V n hV
  refine flat_ext (fun i hi => ?_) (by simp only [List.length_append, List.length_take, List.length_drop]; omega) (fun i hi j hj => ?_)
  · unfold delF
    split
    · exact hV i (by omega)
    · exact hV (i + 1) (by omega)
  · unfold delF
    by_cases h1 : i < L
    · rw [if_pos h1, List.getElem?_append_left (by simp only [List.length_take]; omega), List.getElem?_take_of_lt (by omega)]
      exact flat_get hV i j (by omega) hj
    · rw [if_neg h1, List.getElem?_append_right (by simp only [List.length_take]; omega)]
      have e : (List.take (L * 5) (flat V n)).length = L * 5 := by simp only [List.length_take]; omega
      rw [e, List.getElem?_drop, show (L + 1) * 5 + (i * 5 + j - L * 5) = (i + 1) * 5 + j by omega]
      exact flat_get hV (i + 1) j (by omega) hj

/-- the copy whose rows get shorter -/
structure Wd (w u : World) (g gb : Nat) (A Z : Array Value) (n : Int) (s : ByteArray) (KL FL : List Value) (i j bL bK cL cK : Nat) (l : List Vl) (V : Nat → List Value) : Prop where
  box : u.heap[gb]? = some (.cells #[.int .i64 5, .int .i64 n, .string s, .slice (some ⟨bL, 0, none⟩) i cL, .slice (some ⟨bK, 0, none⟩) j cK] 27 (0, 0))
  low : g + 2 ≤ gb
  wy : Wy w u g A Z
  els : u.ownsRow (g + 2) 27 5 (.slice (some ⟨bL, 0, none⟩) i cL) i FL
  keys : u.ownsRow (g + 2) 9 1 (.slice (some ⟨bK, 0, none⟩) j cK) j KL
  apL : bL ≠ gb
  apK : bK ≠ gb
  el : ∀ c y, l[c]? = some y → IsQ u (fun q => g + 2 ≤ q ∧ q < u.heap.size ∧ q ≠ bL ∧ q ≠ bK ∧ q ≠ gb) y (.agg (V c).toArray)

theorem wd_lt {w u : World} {g gb : Nat} {A Z : Array Value} {n : Int} {s : ByteArray} {KL FL : List Value} {i j bL bK cL cK : Nat} {l : List Vl} {V : Nat → List Value} (h : Wd w u g gb A Z n s KL FL i j bL bK cL cK l V) : gb < u.heap.size ∧ bL < u.heap.size ∧ bK < u.heap.size ∧ bL ≠ bK := by
  obtain ⟨hl, _⟩ := Array.getElem?_eq_some_iff.1 h.box
  exact ⟨hl, (h.els.lt bL rfl).2, (h.keys.lt bK rfl).2, fun e => own_two h.els h.keys (by decide) (b := bL) rfl (by rw [e]; rfl)⟩

theorem wd_key {w u u1 : World} {g gb : Nat} {A Z : Array Value} {n : Int} {s : ByteArray} {KL FL KL' : List Value} {i j j' bL bK cL cK : Nat} {l : List Vl} {V : Nat → List Value} (h : Wd w u g gb A Z n s KL FL i j bL bK cL cK l V)
    (ok : u1.ownsRow (g + 2) 9 1 (.slice (some ⟨bK, 0, none⟩) j' cK) j' KL') (gk : u.grownBy u1 (some bK)) : Wd w (u1.setCell ⟨gb, 4, none⟩ (.slice (some ⟨bK, 0, none⟩) j' cK)) g gb A Z n s KL' FL i j' bL bK cL cK l V := by
  obtain ⟨h1, h2, h3, h4⟩ := wd_lt h
  have hp1 := h.apK
  have hp2 := h.apL
  have hlow := h.low
  have hB : Below (g + 2) u u1 := (Below.refl _ _).grown gk h.wy.size (fun k e => by cases e; exact (h.keys.lt bK rfl).1)
  have far : ∀ q, q < u.heap.size → q ≠ bK → u1.heap[q]? = u.heap[q]? := fun q hq hn => gk.block q hq (fun e => hn (Option.some.inj e))
  have b1 : u1.heap[gb]? = _ := (far gb h1 (fun e => hp1 e.symm)).trans h.box
  have hsz : (u1.setCell ⟨gb, 4, none⟩ (.slice (some ⟨bK, 0, none⟩) j' cK)).heap.size = u1.heap.size := by simp
  have hgs := gk.size
  refine ⟨(set_box b1 _).1, hlow, (h.wy.to hB).to ((Below.refl _ _).setCell (p := ⟨gb, 4, none⟩) hlow _), ?_, own_to5 ok (fun b e => ?_), hp2, hp1, fun c y hy => ?_⟩
  · exact own_to5 h.els (fun b e => by
      have e' : bL = b := Option.some.inj e
      subst e'
      exact (heap_setCell_other _ _ _ _ hp2).trans (far bL h2 h4))
  · have e' : bK = b := Option.some.inj e
    subst e'
    exact heap_setCell_other _ _ _ _ hp1
  · exact (h.el c y hy).to (fun q hq => (heap_setCell_other _ _ _ _ hq.2.2.2.2).trans (far q hq.2.1 hq.2.2.2.1)) (fun q hq => ⟨hq.1, by have := hq.2.1; omega, hq.2.2.1, hq.2.2.2.1, hq.2.2.2.2⟩)

theorem wd_els {w u u1 : World} {g gb : Nat} {A Z : Array Value} {n : Int} {s : ByteArray} {KL FL FL' : List Value} {i i' j bL bK cL cK : Nat} {l : List Vl} {V : Nat → List Value} (h : Wd w u g gb A Z n s KL FL i j bL bK cL cK l V)
    (ol : u1.ownsRow (g + 2) 27 5 (.slice (some ⟨bL, 0, none⟩) i' cL) i' FL') (gl : u.grownBy u1 (some bL)) : Wd w (u1.setCell ⟨gb, 3, none⟩ (.slice (some ⟨bL, 0, none⟩) i' cL)) g gb A Z n s KL FL' i' j bL bK cL cK l V := by
  obtain ⟨h1, h2, h3, h4⟩ := wd_lt h
  have hp1 := h.apK
  have hp2 := h.apL
  have hlow := h.low
  have hB : Below (g + 2) u u1 := (Below.refl _ _).grown gl h.wy.size (fun k e => by cases e; exact (h.els.lt bL rfl).1)
  have far : ∀ q, q < u.heap.size → q ≠ bL → u1.heap[q]? = u.heap[q]? := fun q hq hn => gl.block q hq (fun e => hn (Option.some.inj e))
  have b1 : u1.heap[gb]? = _ := (far gb h1 (fun e => hp2 e.symm)).trans h.box
  have hsz : (u1.setCell ⟨gb, 3, none⟩ (.slice (some ⟨bL, 0, none⟩) i' cL)).heap.size = u1.heap.size := by simp
  have hgs := gl.size
  refine ⟨(set_box b1 _).2, hlow, (h.wy.to hB).to ((Below.refl _ _).setCell (p := ⟨gb, 3, none⟩) hlow _), own_to5 ol (fun b e => ?_), ?_, hp2, hp1, fun c y hy => ?_⟩
  · have e' : bL = b := Option.some.inj e
    subst e'
    exact heap_setCell_other _ _ _ _ hp2
  · exact own_to5 h.keys (fun b e => by
      have e' : bK = b := Option.some.inj e
      subst e'
      exact (heap_setCell_other _ _ _ _ hp1).trans (far bK h3 (fun e => h4 e.symm)))
  · exact (h.el c y hy).to (fun q hq => (heap_setCell_other _ _ _ _ hq.2.2.2.2).trans (far q hq.2.1 hq.2.2.1)) (fun q hq => ⟨hq.1, by have := hq.2.1; omega, hq.2.2.1, hq.2.2.2.1, hq.2.2.2.2⟩)

/-- the copy in a block of its own -/
theorem wd_start {w u5 : World} {g : Nat} {A Z : Array Value} {n : Int} {s : ByteArray} {l : List Vl} {ks : List ByteArray} {V : Nat → List Value} {bL bK cL cK base : Nat} (hz : Wy w u5 g A Z) (hb : g + 2 ≤ base) (M : Made u5 base l ks (.slice (some ⟨bL, 0, none⟩) l.length cL) (.slice (some ⟨bK, 0, none⟩) ks.length cK) V) :
    Wd w (u5.alloc (.cells #[.int .i64 5, .int .i64 n, .string s, .slice (some ⟨bL, 0, none⟩) l.length cL, .slice (some ⟨bK, 0, none⟩) ks.length cK] 27)) g u5.heap.size A Z n s (ks.map Value.string) (flat V l.length) l.length ks.length bL bK cL cK l V := by
  have hB := (Below.refl u5.heap.size u5).alloc (Nat.le_refl _) (.cells #[.int .i64 5, .int .i64 n, .string s, .slice (some ⟨bL, 0, none⟩) l.length cL, .slice (some ⟨bK, 0, none⟩) ks.length cK] 27)
  have h1 := (M.ownL.lt bL rfl).2
  have h2 := (M.ownK.lt bK rfl).2
  refine ⟨heap_alloc_new _ _, hz.size, hz.later hB, own_below (own_base M.ownL hb) hB, own_below (own_base M.ownK hb) hB, by omega, by omega, fun c y hy => ?_⟩
  exact (M.el c y hy).to (fun q hq => hB.block q hq.2.1) (fun q hq => ⟨by have := hq.1; omega, by have := hq.2.1; have := hB.size; omega, fun e => hq.2.2.1 (by rw [e]; rfl), fun e => hq.2.2.2 (by rw [e]; rfl), by have := hq.2.1; omega⟩)

/-- the answer, in its place -/
theorem wd_made {w u u9 : World} {g gb : Nat} {A Z : Array Value} {n : Int} {s : ByteArray} {bL bK cL cK : Nat} {l l' : List Vl} {ks' : List ByteArray} {V V' : Nat → List Value} (h : Wd w u g gb A Z n s (ks'.map Value.string) (flat V' l'.length) l'.length ks'.length bL bK cL cK l V)
    (hs : u9.heap.size = u.heap.size) (ho : ∀ q, q ≠ g + 1 → u9.heap[q]? = u.heap[q]?) (hx : u9.heap[g + 1]? = some (.cells #[.int .i64 5, .int .i64 n, .string s, .slice (some ⟨bL, 0, none⟩) l'.length cL, .slice (some ⟨bK, 0, none⟩) ks'.length cK] 27 (0, 0)))
    (row : ∀ c, c < l'.length → (V' c).length = 5) (back : ∀ c y, l'[c]? = some y → ∃ d, l[d]? = some y ∧ V d = V' c)
    (bn : -9223372036854775808 ≤ n ∧ n ≤ 9223372036854775807) (bs : s.size ≤ 140737488351232) (bq : 16 * ks'.length ≤ 140737488351232) (bt : ∀ t ∈ ks', t.size ≤ 140737488351232) (hbl : l'.length ≤ 1000000) :
    IsQ u9 (fun b => g ≤ b ∧ b < u9.heap.size) (.mk 5 n s l' ks') (.agg #[.int .i64 5, .int .i64 n, .string s, .slice (some ⟨bL, 0, none⟩) l'.length cL, .slice (some ⟨bK, 0, none⟩) ks'.length cK]) := by
  have hlt := wd_lt h
  have hwy := h.wy.size
  have hlow := h.low
  have M : Mid u9 (g + 2) (g + 1) 5 n s l' ks' (.slice (some ⟨bL, 0, none⟩) l'.length cL) (.slice (some ⟨bK, 0, none⟩) ks'.length cK) l'.length ks'.length V' := by
    refine ⟨hx, by omega, by omega, own_to5 h.els (fun b e => ho b (by have := (h.els.lt b e).1; omega)), ?_, Or.inr (fun e => hlt.2.2.2 (Option.some.inj e)), row, fun c y hc hy => ?_⟩
    · rw [List.take_of_length_le (Nat.le_refl _)]
      exact own_to5 h.keys (fun b e => ho b (by have := (h.keys.lt b e).1; omega))
    · obtain ⟨d, hd, e⟩ := back c y hy
      rw [← e]
      exact (h.el d y hd).to (fun q hq => ho q (by have := hq.1; omega)) (fun q hq => ⟨hq.1, by have := hq.2.1; omega, fun e => hq.2.2.1 (Option.some.inj e), fun e => hq.2.2.2.1 (Option.some.inj e)⟩)
  exact (M.made rfl rfl (by omega) bn bs bq bt hbl).weak (fun q hq => ⟨by have := hq.1; omega, hq.2⟩)

end Go.Proofs.Ytcopkhmmpamboaa

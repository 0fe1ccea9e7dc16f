/-
  What Without keeps while it walks: a copy whose rows get shorter; no conditions.
-/
import Derived.Test.YtgkmdjmigehmeaaGreatDoorR18
import Derived.Test.YtgkmdjmigehmeaaGreatDoorR13
import Derived.Test.YtgkmdjmigehmeaaGreatDoorR14
import Derived.Deep.RegionHeld3
namespace Go.Proofs.YtgkmdjmigehmeaaGreatDoor
set_option linter.unusedVariables false
set_option linter.unusedSimpArgs false
set_option maxRecDepth 100000
set_option maxHeartbeats 16000000
open Go.RowKit
structure Wy (w u : World) (g : Nat) (A Z : Array Value) : Prop where
 at0 : u.heap[g]? = some (.cells A 25 (0, 0))
 at1 : u.heap[g + 1]? = some (.cells Z 25 (0, 0))
 size : g + 2 ≤ u.heap.size
 below : Below g w u
theorem Wy.to {w u u1 : World} {g : Nat} {A Z : Array Value} (h : Wy w u g A Z) (hu : Below (g + 2) u u1) : Wy w u1 g A Z :=
 ⟨(hu.block g (by omega)).trans h.at0, (hu.block (g + 1) (by omega)).trans h.at1, Nat.le_trans h.size hu.size, h.below.trans (hu.mono (by omega))⟩
theorem Wy.later {w u u1 : World} {g : Nat} {A Z : Array Value} (h : Wy w u g A Z) (hu : Below u.heap.size u u1) : Wy w u1 g A Z := h.to (hu.mono h.size)
def delF (V : Nat → List Value) (L : Nat) : Nat → List Value := fun i => if i < L then V i else V (i + 1)
theorem flat_del {V : Nat → List Value} {n L : Nat} (hV : ∀ i, i < n → (V i).length = 5) (hL : L < n) : flat (delF V L) (n - 1) = (flat V n).take (L * 5) ++ (flat V n).drop ((L + 1) * 5) := by
 have hf := flat_len V n hV
 refine flat_ext (fun i hi => ?_) (by simp only [List.length_append, List.length_take, List.length_drop]; omega) (fun i hi j hj => ?_)
 ·unfold delF
  split
  ·exact hV i (by omega)
  ·exact hV (i + 1) (by omega)
 ·unfold delF
  by_cases h1 : i < L
  ·rw [if_pos h1, List.getElem?_append_left (by simp only [List.length_take]; omega), List.getElem?_take_of_lt (by omega)]
   exact flat_get hV i j (by omega) hj
  ·rw [if_neg h1, List.getElem?_append_right (by simp only [List.length_take]; omega)]
   have e : (List.take (L * 5) (flat V n)).length = L * 5 := by simp only [List.length_take]; omega
   rw [e, List.getElem?_drop, show (L + 1) * 5 + (i * 5 + j - L * 5) = (i + 1) * 5 + j by omega]
   exact flat_get hV (i + 1) j (by omega) hj
structure Wd (w u : World) (g gb : Nat) (A Z : Array Value) (n : Int) (s : ByteArray) (KL FL : List Value) (i j bL bK cL cK : Nat) (l : List Vl) (V : Nat → List Value) : Prop where
 box : u.heap[gb]? = some (.cells #[.int .i64 5, .int .i64 n, .string s, .slice (some ⟨bL, 0, none⟩) i cL, .slice (some ⟨bK, 0, none⟩) j cK] 25 (0, 0))
 low : g + 2 ≤ gb
 wy : Wy w u g A Z
 els : u.ownsRow (g + 2) 25 5 (.slice (some ⟨bL, 0, none⟩) i cL) i FL
 keys : u.ownsRow (g + 2) 9 1 (.slice (some ⟨bK, 0, none⟩) j cK) j KL
 apL : bL ≠ gb
 apK : bK ≠ gb
 el : ∀ c y, l[c]? = some y → IsQ u (fun q => g + 2 ≤ q ∧ q < u.heap.size ∧ q ≠ bL ∧ q ≠ bK ∧ q ≠ gb) y (.agg (V c).toArray)
theorem wd_lt {w u : World} {g gb : Nat} {A Z : Array Value} {n : Int} {s : ByteArray} {KL FL : List Value} {i j bL bK cL cK : Nat} {l : List Vl} {V : Nat → List Value} (h : Wd w u g gb A Z n s KL FL i j bL bK cL cK l V) : gb < u.heap.size ∧ bL < u.heap.size ∧ bK < u.heap.size ∧ bL ≠ bK := by
 obtain ⟨hl, _⟩ := Array.getElem?_eq_some_iff.1 h.box
 exact ⟨hl, (h.els.lt bL rfl).2, (h.keys.lt bK rfl).2, fun e => own_two h.els h.keys (by decide) (b := bL) rfl (by rw [e]; rfl)⟩
theorem wd_key {w u u1 : World} {g gb : Nat} {A Z : Array Value} {n : Int} {s : ByteArray} {KL FL KL' : List Value} {i j j' bL bK cL cK : Nat} {l : List Vl} {V : Nat → List Value} (h : Wd w u g gb A Z n s KL FL i j bL bK cL cK l V)
  (ok : u1.ownsRow (g + 2) 9 1 (.slice (some ⟨bK, 0, none⟩) j' cK) j' KL') (gk : u.grownBy u1 (some bK)) : Wd w (u1.setCell ⟨gb, 4, none⟩ (.slice (some ⟨bK, 0, none⟩) j' cK)) g gb A Z n s KL' FL i j' bL bK cL cK l V := by
 obtain ⟨h1, h2, h3, h4⟩ := wd_lt h
 have hp1 := h.apK
 have hp2 := h.apL
 have hlow := h.low
 have hB : Below (g + 2) u u1 := (Below.refl _ _).grown gk h.wy.size (fun k e => by cases e; exact (h.keys.lt bK rfl).1)
 have far : ∀ q, q < u.heap.size → q ≠ bK → u1.heap[q]? = u.heap[q]? := fun q hq hn => gk.block q hq (fun e => hn (Option.some.inj e))
 have b1 : u1.heap[gb]? = _ := (far gb h1 (fun e => hp1 e.symm)).trans h.box
 have hsz : (u1.setCell ⟨gb, 4, none⟩ (.slice (some ⟨bK, 0, none⟩) j' cK)).heap.size = u1.heap.size := by simp
 have hgs := gk.size
 refine ⟨(set_box b1 _).1, hlow, (h.wy.to hB).to ((Below.refl _ _).setCell (p := ⟨gb, 4, none⟩) hlow _), ?_, own_to5 ok (fun b e => ?_), hp2, hp1, fun c y hy => ?_⟩
 ·exact own_to5 h.els (fun b e => by
   have e' : bL = b := Option.some.inj e
   subst e'
   exact (heap_setCell_other _ _ _ _ hp2).trans (far bL h2 h4))
 ·have e' : bK = b := Option.some.inj e
  subst e'
  exact heap_setCell_other _ _ _ _ hp1
 ·exact (h.el c y hy).to (fun q hq => (heap_setCell_other _ _ _ _ hq.2.2.2.2).trans (far q hq.2.1 hq.2.2.2.1)) (fun q hq => ⟨hq.1, by have := hq.2.1; omega, hq.2.2.1, hq.2.2.2.1, hq.2.2.2.2⟩)
theorem wd_els {w u u1 : World} {g gb : Nat} {A Z : Array Value} {n : Int} {s : ByteArray} {KL FL FL' : List Value} {i i' j bL bK cL cK : Nat} {l : List Vl} {V : Nat → List Value} (h : Wd w u g gb A Z n s KL FL i j bL bK cL cK l V)
  (ol : u1.ownsRow (g + 2) 25 5 (.slice (some ⟨bL, 0, none⟩) i' cL) i' FL') (gl : u.grownBy u1 (some bL)) : Wd w (u1.setCell ⟨gb, 3, none⟩ (.slice (some ⟨bL, 0, none⟩) i' cL)) g gb A Z n s KL FL' i' j bL bK cL cK l V := by
 obtain ⟨h1, h2, h3, h4⟩ := wd_lt h
 have hp1 := h.apK
 have hp2 := h.apL
 have hlow := h.low
 have hB : Below (g + 2) u u1 := (Below.refl _ _).grown gl h.wy.size (fun k e => by cases e; exact (h.els.lt bL rfl).1)
 have far : ∀ q, q < u.heap.size → q ≠ bL → u1.heap[q]? = u.heap[q]? := fun q hq hn => gl.block q hq (fun e => hn (Option.some.inj e))
 have b1 : u1.heap[gb]? = _ := (far gb h1 (fun e => hp2 e.symm)).trans h.box
 have hsz : (u1.setCell ⟨gb, 3, none⟩ (.slice (some ⟨bL, 0, none⟩) i' cL)).heap.size = u1.heap.size := by simp
 have hgs := gl.size
 refine ⟨(set_box b1 _).2, hlow, (h.wy.to hB).to ((Below.refl _ _).setCell (p := ⟨gb, 3, none⟩) hlow _), own_to5 ol (fun b e => ?_), ?_, hp2, hp1, fun c y hy => ?_⟩
 ·have e' : bL = b := Option.some.inj e
  subst e'
  exact heap_setCell_other _ _ _ _ hp2
 ·exact own_to5 h.keys (fun b e => by
   have e' : bK = b := Option.some.inj e
   subst e'
   exact (heap_setCell_other _ _ _ _ hp1).trans (far bK h3 (fun e => h4 e.symm)))
 ·exact (h.el c y hy).to (fun q hq => (heap_setCell_other _ _ _ _ hq.2.2.2.2).trans (far q hq.2.1 hq.2.2.1)) (fun q hq => ⟨hq.1, by have := hq.2.1; omega, hq.2.2.1, hq.2.2.2.1, hq.2.2.2.2⟩)
theorem wd_start {w u5 : World} {g : Nat} {A Z : Array Value} {n : Int} {s : ByteArray} {l : List Vl} {ks : List ByteArray} {V : Nat → List Value} {bL bK cL cK base : Nat} (hz : Wy w u5 g A Z) (hb : g + 2 ≤ base) (M : MadeV u5 base l ks (.slice (some ⟨bL, 0, none⟩) l.length cL) (.slice (some ⟨bK, 0, none⟩) ks.length cK) V) :
  Wd w (u5.alloc (.cells #[.int .i64 5, .int .i64 n, .string s, .slice (some ⟨bL, 0, none⟩) l.length cL, .slice (some ⟨bK, 0, none⟩) ks.length cK] 25)) g u5.heap.size A Z n s (ks.map Value.string) (flat V l.length) l.length ks.length bL bK cL cK l V := by
 have hB := (Below.refl u5.heap.size u5).alloc (Nat.le_refl _) (.cells #[.int .i64 5, .int .i64 n, .string s, .slice (some ⟨bL, 0, none⟩) l.length cL, .slice (some ⟨bK, 0, none⟩) ks.length cK] 25)
 have h1 := (M.ownL.lt bL rfl).2
 have h2 := (M.ownK.lt bK rfl).2
 refine ⟨heap_alloc_new _ _, hz.size, hz.later hB, own_below (own_base M.ownL hb) hB, own_below (own_base M.ownK hb) hB, by omega, by omega, fun c y hy => ?_⟩
 exact (M.el c y hy).to (fun q hq => hB.block q hq.2.1) (fun q hq => ⟨by have := hq.1; omega, by have := hq.2.1; have := hB.size; omega, fun e => hq.2.2.1 (by rw [e]; rfl), fun e => hq.2.2.2 (by rw [e]; rfl), by have := hq.2.1; omega⟩)
theorem wd_made {w u u9 : World} {g gb : Nat} {A Z : Array Value} {n : Int} {s : ByteArray} {bL bK cL cK : Nat} {l l' : List Vl} {ks' : List ByteArray} {V V' : Nat → List Value} (h : Wd w u g gb A Z n s (ks'.map Value.string) (flat V' l'.length) l'.length ks'.length bL bK cL cK l V)
  (hs : u9.heap.size = u.heap.size) (ho : ∀ q, q ≠ g + 1 → u9.heap[q]? = u.heap[q]?) (hx : u9.heap[g + 1]? = some (.cells #[.int .i64 5, .int .i64 n, .string s, .slice (some ⟨bL, 0, none⟩) l'.length cL, .slice (some ⟨bK, 0, none⟩) ks'.length cK] 25 (0, 0)))
  (row : ∀ c, c < l'.length → (V' c).length = 5) (back : ∀ c y, l'[c]? = some y → ∃ d, l[d]? = some y ∧ V d = V' c)
  (bn : -9223372036854775808 ≤ n ∧ n ≤ 9223372036854775807) (bs : s.size ≤ 140737488351232) (bq : 16 * ks'.length ≤ 140737488351232) (bt : ∀ t ∈ ks', t.size ≤ 140737488351232) (hbl : l'.length ≤ 1000000) :
  IsQ u9 (fun b => g ≤ b ∧ b < u9.heap.size) (.mk 5 n s l' ks') (.agg #[.int .i64 5, .int .i64 n, .string s, .slice (some ⟨bL, 0, none⟩) l'.length cL, .slice (some ⟨bK, 0, none⟩) ks'.length cK]) := by
 have hlt := wd_lt h
 have hwy := h.wy.size
 have hlow := h.low
 have M : Mid u9 (g + 2) (g + 1) 5 n s l' ks' (.slice (some ⟨bL, 0, none⟩) l'.length cL) (.slice (some ⟨bK, 0, none⟩) ks'.length cK) l'.length ks'.length V' := by
  refine ⟨hx, by omega, by omega, own_to5 h.els (fun b e => ho b (by have := (h.els.lt b e).1; omega)), ?_, Or.inr (fun e => hlt.2.2.2 (Option.some.inj e)), row, fun c y hc hy => ?_⟩
  ·rw [List.take_of_length_le (Nat.le_refl _)]
   exact own_to5 h.keys (fun b e => ho b (by have := (h.keys.lt b e).1; omega))
  ·obtain ⟨d, hd, e⟩ := back c y hy
   rw [← e]
   exact (h.el d y hd).to (fun q hq => ho q (by have := hq.1; omega)) (fun q hq => ⟨hq.1, by have := hq.2.1; omega, fun e => hq.2.2.1 (Option.some.inj e), fun e => hq.2.2.2.1 (Option.some.inj e)⟩)
 exact (M.made rfl rfl (by omega) bn bs bq bt hbl).weak (fun q hq => ⟨by have := hq.1; omega, hq.2⟩)
theorem step_roomR {w : World} {ops : Array Oper} {o : Oper} {a : Act} {K : Act → World → Prop} {Q : Exit → Act → World → Prop} {E : Prop} (hgd : o.guard = none) (s x : Operand) (t e : TypeId) (i0 : TypeInfo) (σ : Nat)
  (ho : o.op = .call { callee := .builtin .append, args := #[s, x], argTypes := #[t, t] }) (ht : Tryz.prog.underlying t = some (.slice e)) (hi : Tryz.prog.info? e = some i0) (hs2 : i0.size = σ)
  (b sLen sCap : Nat) (ad : Addr) (m c : Nat) (hs : a.eval s = .slice (some ⟨b, 0, none⟩) sLen sCap) (hx : a.eval x = .slice (some ad) m c) (cur news : List Value) (hg : w.heap[b]? = some (.cells cur.toArray e (0, 0))) (hl : news.length = m * σ) (hnews : ∀ j u, news[j]? = some u → w.cell? (ad.add j) = some u) (h1 : ∀ u ∈ news, u.oneCell' = true)
  (hroom : sLen + m ≤ sCap) (hfit : sLen * σ + news.length ≤ cur.length)
  (h : ∀ w', Hid (LaidR w w' b (splice cur (sLen * σ) news) e) → K (a.put o.dst (.slice (some ⟨b, 0, none⟩) (sLen + m) sCap)) w') :
  if Region.wanted o (yielded ops a.tmps) = true then Oper.wp Tryz.prog o a w K Q else E := by
 rw [if_pos (show Region.wanted o (yielded ops a.tmps) = true by simp [Region.wanted, hgd])]
 have hrun := run_append_room (P := Tryz.prog) w t o.type e i0 ht hi b sLen sCap cur.toArray hg ad m c news (by rw [hs2]; exact hl) hnews h1 hroom (by rw [hs2]; simpa using hfit)
 rw [hs2] at hrun
 unfold Oper.wp
 simp only [execOp, ho, resolve, invoke, builtin, Sem.run_bind, Sem.run_pure, Result.andThen_ok, List.map_toArray, List.map_cons, List.map_nil, hs, hx, hrun]
 have e1 : (cur.toArray.toList.take (sLen * σ) ++ news ++ cur.toArray.toList.drop (sLen * σ + news.length)) = splice cur (sLen * σ) news := by simp [splice]
 rw [e1]
 exact h _ (laidR_set hg _)
theorem wpl_clearR {w : World} {ops : Array Oper} {rest : List Oper} {o : Oper} {a : Act} {Q : Exit → Act → World → Prop} (hgd : o.guard = none) (x : Operand) (t e : TypeId) (z : Value) (σ : Nat)
  (ho : o.op = .call { callee := .builtin .clear, args := #[x], argTypes := #[t] }) (ht : Tryz.prog.underlying t = some (.slice e)) (hz : ∀ w, (zeroValue e).run Tryz.prog w = .ok z w) (zl : List Value) (hzc : (Builtin.zeroCells z.cells 1).toList = zl) (hzl : zl.length = σ) (h1 : ∀ u ∈ zl, u.oneCell' = true)
  (b off c : Nat) (hx : a.eval x = .slice (some ⟨b, off, none⟩) 1 c) (cur : List Value) (T : TypeId) (hg : w.heap[b]? = some (.cells cur.toArray T (0, 0))) (hfit : off + σ ≤ cur.length)
  (h : ∀ w', Hid (LaidR w w' b (splice cur off zl) T) → wpList Tryz.prog ops Q rest (a.put o.dst (.tuple #[])) w') : wpList Tryz.prog ops Q (o :: rest) a w := by
 refine wpList_plain hgd fun K hK => ?_
 have hst := run_storeCells_at Tryz.prog b off T zl 0 cur.toArray w hg (by simpa [hzl] using hfit) h1
 have hrun : (Builtin.clear_ #[t] o.type #[.slice (some ⟨b, off, none⟩) 1 c]).run Tryz.prog w = .ok (.tuple #[]) (w.setRow b (splice cur off zl).toArray) := by
  simp [Builtin.clear_, run_underlying ht, hz, hzc, hst, splice]
 unfold Oper.wp
 simp only [execOp, ho, resolve, invoke, builtin, Sem.run_bind, Sem.run_pure, Result.andThen_ok, List.map_toArray, List.map_cons, List.map_nil, hx, hrun]
 exact hK _ _ (h _ (laidR_set hg _))
theorem splice_delR (cur xs zl : List Value) (σ N I : Nat) (hx : xs.length = N) (hz : zl.length = σ) (hi : I + σ ≤ N) (hc : N ≤ cur.length) (ht : cur.take N = xs) :
  (splice (splice cur I (xs.drop (I + σ))) (N - σ) zl).take (N - σ) = xs.take I ++ xs.drop (I + σ) ∧ (splice (splice cur I (xs.drop (I + σ))) (N - σ) zl).length = cur.length := by
 have hl : (xs.drop (I + σ)).length = N - (I + σ) := by rw [List.length_drop, hx]
 have h1 : (splice cur I (xs.drop (I + σ))).length = cur.length := length_splice _ _ _ (by rw [hl]; omega)
 have hti : cur.take I = xs.take I := by rw [← ht, List.take_take, Nat.min_eq_left (by omega)]
 refine ⟨?_, by rw [length_splice _ _ _ (by rw [h1, hz]; omega), h1]⟩
 have e1 : (splice (splice cur I (xs.drop (I + σ))) (N - σ) zl).take (N - σ) = (splice cur I (xs.drop (I + σ))).take (N - σ) := by
  generalize splice cur I (xs.drop (I + σ)) = M at h1
  have h2 : (M.take (N - σ)).length = N - σ := by rw [List.length_take, h1]; omega
  unfold splice
  rw [List.take_append_of_le_length (by omega), List.take_of_length_le (by omega)]
 have hlen : (xs.take I ++ xs.drop (I + σ)).length = N - σ := by rw [List.length_append, List.length_take, hl, hx]; omega
 rw [e1]
 unfold splice
 rw [hti, ← List.append_assoc, ← hlen, List.take_left]
theorem zcS : (Builtin.zeroCells (.string ⟨#[]⟩ : Value).cells 1).toList = [.string ⟨#[]⟩] := by
 simp [Builtin.zeroCells, List.range_succ, Value.cells]
theorem zoS : ∀ u ∈ ([.string ⟨#[]⟩] : List Value), u.oneCell' = true := (by intro u hu; simp at hu; subst hu; rfl)
theorem deleteS (base : Nat) (xs : List Value) (n i b cap : Nat) (w : World) (ho : w.ownsRow base 9 1 (.slice (some ⟨b, 0, none⟩) n cap) n xs) (hl1 : ∀ u ∈ xs, u.oneCell' = true) (hi : i < n) (J : Int) (hJ : J = (i : Int) + 1) :
  Calls Tryz.prog 136 #[.slice (some ⟨b, 0, none⟩) n cap, .int .i64 i, .int .i64 J] w fun e w' => e = .returned (.slice (some ⟨b, 0, none⟩) (n - 1) cap) ∧ w'.ownsRow base 9 1 (.slice (some ⟨b, 0, none⟩) (n - 1) cap) (n - 1) (xs.take (i * 1) ++ xs.drop ((i + 1) * 1)) ∧ w.grownBy w' (some b) := by
 obtain ⟨i0, hi0, hz0, hz1, hz2⟩ := info_parts infoSc
 have hxl := ho.1
 obtain ⟨cur, hbase, hg, hc, hm, hcs, htk⟩ : ∃ cur : List Value, base ≤ b ∧ w.heap[b]? = some (.cells cur.toArray 9 (0, 0)) ∧ n ≤ cap ∧ cap ≤ maxLen ∧ cur.length = cap * 1 ∧ cur.take (n * 1) = xs := by
  rcases ho.2 with ⟨e, _⟩ | ⟨g, cap', cur, e, hb, hg, hc, hm, hs, ht⟩
  ·cases e
  ·cases e
   exact ⟨cur.toList, hb, by simpa using hg, hc, hm, by simpa using hs, ht⟩
 have hcm : cap ≤ 9223372036854775807 := by unfold maxLen at hm; omega
 have hsrc : ∀ (u : World) (ad : Addr), u.heap[b]? = some (.cells cur.toArray 9 (0, 0)) → (i + 1 < n → ad = ⟨b, i + 1, none⟩) → ∀ j v, (xs.drop ((i + 1) * 1))[j]? = some v → u.cell? (ad.add j) = some v := fun u ad hu had j v hj => by
  have hlt : i + 1 < n := by
   have := (List.getElem?_eq_some_iff.1 hj).1
   rw [List.length_drop, hxl] at this
   omega
  rw [had hlt, add_offR, cell_of_row u b _ _ _ (0, 0) hu]
  rw [List.getElem?_drop, ← htk] at hj
  rw [List.getElem?_take] at hj
  split at hj
  ·simpa using hj
  ·cases hj
 have HP : Hid (∀ u ∈ xs.drop ((i + 1) * 1), u.oneCell' = true) := hide (fun u hu => hl1 u (List.mem_of_mem_drop hu))
 have HG := hide hg
 have HS := hide hsrc
 have HC := hide (And.intro hbase (And.intro hcs (And.intro htk (And.intro hm hxl))))
 have HL : Hid ((xs.drop ((i + 1) * 1)).length = (n - (i + 1)) * 1) := hide (by rw [List.length_drop, hxl]; omega)
 have HF : Hid (i * 1 + (xs.drop ((i + 1) * 1)).length ≤ cur.length) := hide (by rw [uh HL, hcs]; omega)
 obtain ⟨ds, hds⟩ : ∃ ds, xs.drop ((i + 1) * 1) = ds := ⟨_, rfl⟩
 rw [hds] at HL HF HS HP
 have HDS := hide hds
 have i1 : (0 : Int) ≤ (i : Int) := by omega
 have i2 : (i : Int) ≤ (i : Int) + 1 := by omega
 have i3 : (i : Int) + 1 ≤ (n : Int) := by omega
 have i4 : (n : Int) ≤ (cap : Int) := by omega
 have i5 : ¬ ((i : Int) = (i : Int) + 1) := by omega
 have i6 : ((i : Int) + 1).toNat = i + 1 := by omega
 have i7 : (0 : Int) ≤ (i : Int) + 1 := by omega
 have i8 : ¬ (n = i) := by omega
 have i9 : ¬ (cap = i) := by omega
 have i10 : (i : Int) ≤ (cap : Int) := by omega
 have i11 : (i : Int) + 1 ≤ (cap : Int) := by omega
 subst hJ
 clear ho hl1 hg hsrc hbase hcs hm htk hds hxl
 have fin : Hid (∀ w1 w2 : World, LaidR w.drew w1 b (splice cur (i * 1) ds) 9 → LaidR w1 w2 b (splice (splice cur (i * 1) ds) (n - 1) [.string ⟨#[]⟩]) 9 →
   w2.ownsRow base 9 1 (.slice (some ⟨b, 0, none⟩) (n - 1) cap) (n - 1) (xs.take (i * 1) ++ xs.drop ((i + 1) * 1)) ∧ w.grownBy w2 (some b)) := hide (fun w1 w2 H1 H2 => by
  obtain ⟨hbase, hcs, htk, hm, hxl⟩ := uh HC
  obtain ⟨hs1, hs2⟩ := splice_delR cur xs [.string ⟨#[]⟩] 1 (n * 1) (i * 1) hxl rfl (by omega) (by omega) htk
  have e1 : i * 1 + 1 = (i + 1) * 1 := by omega
  have e2 : n * 1 - 1 = n - 1 := by omega
  rw [e1, uh HDS, e2] at hs1 hs2
  refine ⟨⟨?_, .inr ⟨b, cap, _, rfl, hbase, H2.here, by omega, hm, by rw [List.size_toArray, hs2, hcs], ?_⟩⟩, ⟨?_, ?_, ?_, ?_, fun k hk hne' => ?_⟩⟩
  ·simp only [List.length_append, List.length_take, List.length_drop, hxl]
   omega
  ·rw [List.toList_toArray, uh HDS, show (n - 1) * 1 = n - 1 by omega]
   exact hs1
  ·exact H2.os.trans H1.os
  ·exact H2.tape.trans H1.tape
  ·exact H2.output.trans H1.output
  ·rw [H2.size, H1.size]
   exact Nat.le_refl _
  ·have hk2 : k ≠ b := fun e => hne' (by rw [e])
   rw [H2.other k hk2, H1.other k hk2]
   rfl)
 by_cases hcp : cap = i + 1
 ·subst hcp
  go_enter Tryz.func136, Tryz.ntmps136
  go_wp2_with fail
  go_region_held3 (fun _ => True)
   (exact trivial)
   ((refine step_roomR (by rfl) (.tmp 22) (.tmp 25) 23 9 i0 1 (by rfl) Tryz.underlying23 hi0 hz1 b i (i + 1) ⟨b, 0, none⟩ 0 0 (by rfl) (by rfl) cur ds (uh HG) (by have := uh HL; omega) (uh HS _ _ (uh HG) (by omega)) (uh HP) (by omega) (uh HF) ?_; rw [show i + 0 = n - 1 by omega]; intro w1 H1))
  have hs1 : (splice cur (i * 1) ds).length = cur.length := length_splice _ _ _ (uh HF)
  have HF1 : Hid (n - 1 + 1 ≤ (splice cur (i * 1) ds).length) := hide (by rw [hs1]; have := (uh HC).2.1; omega)
  clear hs1
  have j1 : ((n - 1 : Nat) : Int) ≤ (n : Int) := by omega
  have j2 : ¬ (i + 1 = n - 1) := by omega
  have j3 : (0 : Int) ≤ ((n - 1 : Nat) : Int) := by omega
  have j4 : n - (n - 1) = 1 := by omega
  have tok1 : True := trivial
  go_wp2_with (first | (have _t := tok1; refine wpl_clearR rfl (.tmp 31) 23 9 _ 1 rfl Tryz.underlying23 Tryz.zeroValue9 [.string ⟨#[]⟩] zcS rfl zoS b (n - 1) (i + 1 - (n - 1)) (by simp [Act.eval, Act.put, j4]) (splice cur (i * 1) ds) 9 (uh H1).here (uh HF1) ?_; intro w2 H2; clear tok1))
  go_ret
  exact ⟨rfl, uh fin w1 w2 (uh H1) (uh H2)⟩
 ·go_enter Tryz.func136, Tryz.ntmps136
  go_wp2_with fail
  go_region_held3 (fun _ => True)
   (exact trivial)
   ((refine step_roomR (by rfl) (.tmp 22) (.tmp 25) 23 9 i0 1 (by rfl) Tryz.underlying23 hi0 hz1 b i cap ⟨b, i + 1, none⟩ (n - (i + 1)) (cap - (i + 1)) (by rfl) (by rfl) cur ds (uh HG) (by have := uh HL; omega) (uh HS _ _ (uh HG) (by intro _; rfl)) (uh HP) (by omega) (uh HF) ?_; rw [show i + (n - (i + 1)) = n - 1 by omega]; intro w1 H1))
  have hs1 : (splice cur (i * 1) ds).length = cur.length := length_splice _ _ _ (uh HF)
  have HF1 : Hid (n - 1 + 1 ≤ (splice cur (i * 1) ds).length) := hide (by rw [hs1]; have := (uh HC).2.1; omega)
  clear hs1
  have j1 : ((n - 1 : Nat) : Int) ≤ (n : Int) := by omega
  have j2 : ¬ (cap = n - 1) := by omega
  have j3 : (0 : Int) ≤ ((n - 1 : Nat) : Int) := by omega
  have j4 : n - (n - 1) = 1 := by omega
  have tok1 : True := trivial
  go_wp2_with (first | (have _t := tok1; refine wpl_clearR rfl (.tmp 31) 23 9 _ 1 rfl Tryz.underlying23 Tryz.zeroValue9 [.string ⟨#[]⟩] zcS rfl zoS b (n - 1) (cap - (n - 1)) (by simp [Act.eval, Act.put, j4]) (splice cur (i * 1) ds) 9 (uh H1).here (uh HF1) ?_; intro w2 H2; clear tok1))
  go_ret
  exact ⟨rfl, uh fin w1 w2 (uh H1) (uh H2)⟩
end Go.Proofs.YtgkmdjmigehmeaaGreatDoor

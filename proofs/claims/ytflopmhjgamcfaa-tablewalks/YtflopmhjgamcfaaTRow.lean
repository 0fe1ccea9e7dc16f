/-
  Append of one element of two cells onto a row of the call's own, nil or not: what comes out, and what stands behind it; no conditions but that the row's bytes are within 2^47.
-/
import Derived.Test.YtflopmhjgamcfaaTTab
import Derived.Deep.AppendLies
namespace Go.Proofs.Ytflopmhjgamcfaa
open Go.RowKit

theorem info_parts {P : Program} {t : TypeId} {z : Option Value} {s b : Nat} (h : (P.info? t).map (fun i => (i.zero, i.size, i.bytes)) = some (z, s, b)) : ∃ i, P.info? t = some i ∧ i.zero = z ∧ i.size = s ∧ i.bytes = b := by
  cases hi : P.info? t with
  | none => rw [hi] at h; cases h
  | some i =>
    rw [hi] at h
    simp only [Option.map_some, Option.some.injEq, Prod.mk.injEq] at h
    exact ⟨i, rfl, h.1, h.2.1, h.2.2⟩

/-- the world behind something that has grown a row -/
structure Grew (w w' : World) (v v' : Value) : Prop where
  grown : w.grownBy w' v.ownBlock
  row : ∀ b, v'.ownBlock = some b → v.ownBlock = some b ∨ w.heap.size ≤ b

theorem one_two {x y : Value} (hx : x.oneCell' = true) (hy : y.oneCell' = true) : ∀ u ∈ [x, y], u.oneCell' = true := by
  intro u hu
  simp only [List.mem_cons, List.mem_nil_iff, or_false] at hu
  rcases hu with rfl | rfl
  · exact hx
  · exact hy

theorem two_cells {w : World} {gv : Nat} {x y : Value} {E : TypeId} (h : w.heap[gv]? = some (.cells #[x, y] E (0, 0))) : ∀ j u, [x, y][j]? = some u → w.cell? ((⟨gv, 0, none⟩ : Addr).add j) = some u := by
  intro j u hj
  rw [add_at, cell_of_row w gv j _ _ (0, 0) h]
  match j, hj with
  | 0, hj => exact hj
  | 1, hj => exact hj

theorem new_pair (u : World) (x y : Value) (E : TypeId) : (u.alloc (.cells #[x, y] E)).heap[u.heap.size]? = some (.cells #[x, y] E (0, 0)) ∧ Below u.heap.size u (u.alloc (.cells #[x, y] E)) ∧ (u.alloc (.cells #[x, y] E)).heap.size = u.heap.size + 1 :=
  ⟨heap_alloc_new u _, (Below.refl _ _).alloc (Nat.le_refl _) _, by simp⟩

theorem own_below {w w' : World} {base : Nat} {e : TypeId} {size : Nat} {v : Value} {n : Nat} {xs : List Value} (h : w.ownsRow base e size v n xs) (hb : Below w.heap.size w w') : w'.ownsRow base e size v n xs := by
  refine ⟨h.1, ?_⟩
  rcases h.2 with hn | ⟨g, cap, cur, rfl, hbs, hg, rest⟩
  · exact .inl hn
  · exact .inr ⟨g, cap, cur, rfl, hbs, (hb.block g (Array.getElem?_eq_some_iff.1 hg).1).trans hg, rest⟩

theorem slice_of {w : World} {base : Nat} {e : TypeId} {size : Nat} {v : Value} {n : Nat} {xs : List Value} (h : w.ownsRow base e size v n xs) : ∃ ao cap, v = .slice ao n cap := by
  rcases h.2 with ⟨rfl, hn⟩ | ⟨g, cap, cur, rfl, _⟩
  · exact ⟨none, 0, by rw [hn]⟩
  · exact ⟨_, cap, rfl⟩

theorem frozen_of {w : World} {g : Nat} {cs : Array Value} {T : TypeId} (h : w.heap[g]? = some (.cells cs T (0, 0))) : w.frozen? ⟨g, 0, none⟩ = false := frozen_of_row w g 0 _ T h

/-- append, at a plain region's list -/
theorem wpl_app2 {P : Program} {w : World} {ops : Array Oper} {rest : List Oper} {o : Oper} {a : Act} {Q : Exit → Act → World → Prop} (hgd : o.guard = none) (sl x : Operand) (tS E : TypeId) (i0 : TypeInfo) (z : Value) (bytes : Nat)
    (hS : P.underlying tS = some (.slice E)) (hi : P.info? E = some i0) (hz0 : i0.zero = some z) (hz1 : i0.size = 2) (hz2 : i0.bytes = bytes) (hzc : z.cells.size = 2)
    (ho : o.op = .call { callee := .builtin .append, args := #[sl, x], argTypes := #[tS, tS] })
    (base n : Nat) (v : Value) (xs : List Value) (hs : a.eval sl = v) (hown : w.ownsRow base E 2 v n xs)
    (gv : Nat) (y0 y1 : Value) (hx : a.eval x = .slice (some ⟨gv, 0, none⟩) 1 1) (hg : w.heap[gv]? = some (.cells #[y0, y1] E (0, 0))) (h0 : y0.oneCell' = true) (h1 : y1.oneCell' = true)
    (hm : n + 1 ≤ maxLen) (hbytes : (n + 1) * bytes ≤ 140737488355328) (hbase : base ≤ w.heap.size)
    (h : ∀ v' w', Hid (w'.ownsRow base E 2 v' (n + 1) (xs ++ [y0, y1]) ∧ Grew w w' v v') → wpList P ops Q rest (a.put o.dst v') w') :
    wpList P ops Q (o :: rest) a w := by
  refine wpList_plain hgd fun K hK => ?_
  obtain ⟨v', w', hrun, h2, h3, _, h5⟩ := run_append_own_at (P := P) w base tS o.type E i0 z 2 bytes hS hi hz0 hz1 hz2 hzc (by decide) v n _ hown ⟨gv, 0, none⟩ 1 1 [y0, y1] rfl (two_cells hg) (one_two h0 h1) hm hbytes hbase
  unfold Oper.wp
  simp only [execOp, ho, resolve, invoke, builtin, Sem.run_bind, Sem.run_pure, Result.andThen_ok, List.map_toArray, List.map_cons, List.map_nil, hs, hx, hrun]
  refine hK _ _ (h v' w' ⟨h2, h3, fun b hb => ?_⟩)
  rcases h5 with e | e
  · exact Or.inl (by rw [← e]; exact hb)
  · rw [hb] at e
    exact Or.inr (by rw [Option.some.inj e]; exact Nat.le_refl _)

/-- what a call that works on one table leaves as it was -/
structure Turns (w w' : World) (g : Nat) (v : Value) : Prop where
  os : w'.os = w.os
  tape : w'.tape = w.tape
  output : w'.output = w.output
  size : w.heap.size ≤ w'.heap.size
  block : ∀ k, k < w.heap.size → k ≠ g → some k ≠ v.ownBlock → w'.heap[k]? = w.heap[k]?

theorem Turns.below {w w' : World} {g : Nat} {v : Value} (h : Turns w w' g v) {B : Nat} (hB : B ≤ w.heap.size) (hg : B ≤ g) (hv : ∀ b, v.ownBlock = some b → B ≤ b) : Below B w w' :=
  ⟨h.os, h.tape, h.output, h.size, fun k hk => h.block k (by omega) (by omega) (fun e => by have := hv k e.symm; omega)⟩
end Go.Proofs.Ytflopmhjgamcfaa

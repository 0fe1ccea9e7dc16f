/-
  What the two copies of slices.Insert leave in a row of cells, whatever an element's size, and copy as a step over such a row; no conditions.
-/
import Derived.Test.YtcopkhmmpamboaaL13
import Derived.Lib.AppendZerosOnto
import Derived.Lib.Overlaps
import Derived.Laws.CopyOwn
import Derived.Maps.AppendAt
import Derived.Test.YtcopkhmmpamboaaL18
namespace Go.Proofs.Ytcopkhmmpamboaa
open Go.RowKit
set_option linter.unusedVariables false
set_option linter.unusedSimpArgs false

/-- first the rest behind, then what comes in -/
theorem splice_in (cur xs ys : List Value) (σ N I : Nat) (hx : xs.length = N) (hy : ys.length = σ) (hi : I ≤ N) (hc : N + σ ≤ cur.length) (ht : cur.take I = xs.take I) :
    (splice (splice cur (I + σ) (xs.drop I)) I ys).take (N + σ) = xs.take I ++ ys ++ xs.drop I ∧ (splice (splice cur (I + σ) (xs.drop I)) I ys).length = cur.length := by
  have hd : (xs.drop I).length = N - I := by rw [List.length_drop, hx]
  have h1 : (splice cur (I + σ) (xs.drop I)).length = cur.length := length_splice _ _ _ (by rw [hd]; omega)
  refine ⟨?_, by rw [length_splice _ _ _ (by rw [h1, hy]; omega), h1]⟩
  have e1 : (splice cur (I + σ) (xs.drop I)).take I = xs.take I := by
    unfold splice
    rw [List.take_append_of_le_length (by rw [List.length_take]; omega), List.take_take, Nat.min_eq_left (by omega), ht]
  have e2 : (splice cur (I + σ) (xs.drop I)).drop (I + ys.length) = xs.drop I ++ cur.drop (I + σ + (xs.drop I).length) := by
    unfold splice
    have : I + ys.length = (cur.take (I + σ)).length := by rw [List.length_take, Nat.min_eq_left (by omega), hy]
    rw [this, List.drop_left]
  have hl : (xs.take I ++ ys ++ xs.drop I).length = N + σ := by
    simp only [List.length_append, List.length_take, hd, hx, hy]
    omega
  have e3 : splice (splice cur (I + σ) (xs.drop I)) I ys = (xs.take I ++ ys ++ xs.drop I) ++ cur.drop (I + σ + (xs.drop I).length) := by
    rw [splice, e1, e2]
    simp
  rw [e3, ← hl, List.take_left]

/-- the other way round -/
theorem splice_in' (cur xs ys : List Value) (σ N I : Nat) (hx : xs.length = N) (hy : ys.length = σ) (hi : I ≤ N) (hc : N + σ ≤ cur.length) (ht : cur.take I = xs.take I) :
    (splice (splice cur I ys) (I + σ) (xs.drop I)).take (N + σ) = xs.take I ++ ys ++ xs.drop I ∧ (splice (splice cur I ys) (I + σ) (xs.drop I)).length = cur.length := by
  have hd : (xs.drop I).length = N - I := by rw [List.length_drop, hx]
  have h1 : (splice cur I ys).length = cur.length := length_splice _ _ _ (by rw [hy]; omega)
  refine ⟨?_, by rw [length_splice _ _ _ (by rw [h1, hd]; omega), h1]⟩
  have e1 : (splice cur I ys).take (I + σ) = xs.take I ++ ys := by
    unfold splice
    rw [ht, ← List.append_assoc]
    have : I + σ = (xs.take I ++ ys).length := by rw [List.length_append, List.length_take, hx, hy, Nat.min_eq_left hi]
    rw [this, List.take_left]
  have hl : (xs.take I ++ ys ++ xs.drop I).length = N + σ := by
    simp only [List.length_append, List.length_take, hd, hx, hy]
    omega
  have e3 : splice (splice cur I ys) (I + σ) (xs.drop I) = (xs.take I ++ ys ++ xs.drop I) ++ (splice cur I ys).drop (I + σ + (xs.drop I).length) := by
    conv => lhs; unfold splice
    rw [show (List.take I cur ++ (ys ++ List.drop (I + ys.length) cur)) = splice cur I ys from rfl, e1]
    simp
  rw [e3, ← hl, List.take_left]

/-- one block of cells is another row, all else is as it was -/
structure LaidR (w w' : World) (g : Nat) (cs : List Value) (t : TypeId) : Prop where
  here : w'.heap[g]? = some (.cells cs.toArray t (0, 0))
  os : w'.os = w.os
  tape : w'.tape = w.tape
  output : w'.output = w.output
  size : w'.heap.size = w.heap.size
  other : ∀ k, k ≠ g → w'.heap[k]? = w.heap[k]?

theorem laidR_set {w : World} {g : Nat} {cur : Array Value} {t : TypeId} (hg : w.heap[g]? = some (.cells cur t (0, 0))) (cs : List Value) : LaidR w (w.setRow g cs.toArray) g cs t :=
  ⟨setRow_heap w g cur _ t _ hg, rfl, rfl, rfl, by simp [World.setRow], fun k hk => setRow_other w g k _ hk⟩

theorem run_copyR (w : World) (dT sT ty elem : TypeId) (i0 : TypeInfo) (σ g o dLen dCap : Nat) (a : Addr) (sLen sCap : Nat) (cur : List Value) (t : TypeId) (cs : List Value)
    (hu : Try.prog.underlying dT = some (.slice elem)) (hi : Try.prog.info? elem = some i0) (hs : i0.size = σ)
    (hg : w.heap[g]? = some (.cells cur.toArray t (0, 0))) (n : Nat) (hn : Nat.min sLen dLen = n) (hcs : cs.length = n * σ)
    (hsrc : ∀ j v, cs[j]? = some v → w.cell? (a.add j) = some v) (hfit : o + cs.length ≤ cur.length) (h1 : ∀ v ∈ cs, v.oneCell' = true) :
    (Builtin.copy_ #[dT, sT] ty #[.slice (some ⟨g, o, none⟩) dLen dCap, .slice (some a) sLen sCap]).run Try.prog w =
      .ok (goInt n) (w.setRow g (splice cur o cs).toArray) := by
  have hl := run_loadCells_list (P := Try.prog) w a cs hsrc
  have hst := run_storeCells_at Try.prog g o t cs 0 cur.toArray w hg (by simpa using hfit) h1
  rw [hcs] at hl
  simp [Builtin.copy_, run_underlying hu, Builtin.lenOf, Builtin.firstCells, sizeOf, typeInfo, hi, hs, hn, hl, hst, splice]

/-- copy, at a plain region's list -/
theorem wpl_copyR {w : World} {ops : Array Oper} {rest : List Oper} {o : Oper} {a : Act} {Q : Exit → Act → World → Prop} (hgd : o.guard = none) (d s : Operand) (dT sT elem : TypeId) (i0 : TypeInfo) (σ : Nat)
    (ho : o.op = .call { callee := .builtin .copy, args := #[d, s], argTypes := #[dT, sT] }) (hu : Try.prog.underlying dT = some (.slice elem)) (hi : Try.prog.info? elem = some i0) (hs2 : i0.size = σ)
    (g off dLen dCap : Nat) (ad : Addr) (sLen sCap : Nat) (hd : a.eval d = .slice (some ⟨g, off, none⟩) dLen dCap) (hs : a.eval s = .slice (some ad) sLen sCap)
    (cur : List Value) (t : TypeId) (hg : w.heap[g]? = some (.cells cur.toArray t (0, 0))) (cs : List Value) (n : Nat) (hn : Nat.min sLen dLen = n) (hcs : cs.length = n * σ)
    (hsrc : ∀ j v, cs[j]? = some v → w.cell? (ad.add j) = some v) (hfit : off + cs.length ≤ cur.length) (h1 : ∀ v ∈ cs, v.oneCell' = true)
    (h : ∀ w', Hid (LaidR w w' g (splice cur off cs) t) → wpList Try.prog ops Q rest (a.put o.dst (goInt n)) w') : wpList Try.prog ops Q (o :: rest) a w := by
  refine wpList_plain hgd fun K hK => ?_
  have hrun := run_copyR w dT sT o.type elem i0 σ g off dLen dCap ad sLen sCap cur t cs hu hi hs2 hg n hn hcs hsrc hfit h1
  unfold Oper.wp
  simp only [execOp, ho, resolve, invoke, builtin, Sem.run_bind, Sem.run_pure, Result.andThen_ok, List.map_toArray, List.map_cons, List.map_nil, hd, hs, hrun]
  exact hK _ _ (h _ (laidR_set hg _))

/-- copy, at a step of a region that draws -/
theorem step_copyR {w : World} {ops : Array Oper} {o : Oper} {a : Act} {K : Act → World → Prop} {Q : Exit → Act → World → Prop} {E : Prop} (hgd : o.guard = none) (d s : Operand) (dT sT elem : TypeId) (i0 : TypeInfo) (σ : Nat)
    (ho : o.op = .call { callee := .builtin .copy, args := #[d, s], argTypes := #[dT, sT] }) (hu : Try.prog.underlying dT = some (.slice elem)) (hi : Try.prog.info? elem = some i0) (hs2 : i0.size = σ)
    (g off dLen dCap : Nat) (ad : Addr) (sLen sCap : Nat) (hd : a.eval d = .slice (some ⟨g, off, none⟩) dLen dCap) (hs : a.eval s = .slice (some ad) sLen sCap)
    (cur : List Value) (t : TypeId) (hg : w.heap[g]? = some (.cells cur.toArray t (0, 0))) (cs : List Value) (n : Nat) (hn : Nat.min sLen dLen = n) (hcs : cs.length = n * σ)
    (hsrc : ∀ j v, cs[j]? = some v → w.cell? (ad.add j) = some v) (hfit : off + cs.length ≤ cur.length) (h1 : ∀ v ∈ cs, v.oneCell' = true)
    (h : ∀ w', Hid (LaidR w w' g (splice cur off cs) t) → K (a.put o.dst (goInt n)) w') :
    if Region.wanted o (yielded ops a.tmps) = true then Oper.wp Try.prog o a w K Q else E := by
  rw [if_pos (show Region.wanted o (yielded ops a.tmps) = true by simp [Region.wanted, hgd])]
  have hrun := run_copyR w dT sT o.type elem i0 σ g off dLen dCap ad sLen sCap cur t cs hu hi hs2 hg n hn hcs hsrc hfit h1
  unfold Oper.wp
  simp only [execOp, ho, resolve, invoke, builtin, Sem.run_bind, Sem.run_pure, Result.andThen_ok, List.map_toArray, List.map_cons, List.map_nil, hd, hs, hrun]
  exact h _ (laidR_set hg _)

set_option maxRecDepth 100000 in
/-- append of one more onto a row of the call's own -/
theorem wpl_appR {w : World} {ops : Array Oper} {rest : List Oper} {o : Oper} {a : Act} {Q : Exit → Act → World → Prop} (hgd : o.guard = none) (sl x : Operand) (tS e : TypeId) (i0 : TypeInfo) (z : Value) (σ bytes : Nat)
    (hS : Try.prog.underlying tS = some (.slice e)) (hi : Try.prog.info? e = some i0) (hz0 : i0.zero = some z) (hz1 : i0.size = σ) (hz2 : i0.bytes = bytes) (hzc : z.cells.size = σ) (hsz : 0 < σ)
    (ho : o.op = .call { callee := .builtin .append, args := #[sl, x], argTypes := #[tS, tS] })
    (base n : Nat) (v : Value) (xs : List Value) (hs : a.eval sl = v) (hown : w.ownsRow base e σ v n xs) (gv : Nat) (ys : List Value) (hx : a.eval x = .slice (some ⟨gv, 0, none⟩) 1 1) (hv : w.heap[gv]? = some (.cells ys.toArray e (0, 0))) (hys : ys.length = σ) (h1 : ∀ u ∈ ys, u.oneCell' = true)
    (h63 : n + 1 ≤ maxLen) (hb : (n + 1) * bytes ≤ 140737488355328) (hbase : base ≤ w.heap.size)
    (h : ∀ v' w', Hid (w'.ownsRow base e σ v' (n + 1) (xs ++ ys) ∧ Grew w w' v v') → wpList Try.prog ops Q rest (a.put o.dst v') w') : wpList Try.prog ops Q (o :: rest) a w := by
  refine wpList_plain hgd fun K hK => ?_
  obtain ⟨v', w', hrun, h2, h3, _, h5⟩ := run_append_own_at (P := Try.prog) w base tS o.type e i0 z σ bytes hS hi hz0 hz1 hz2 hzc hsz v n xs hown ⟨gv, 0, none⟩ 1 1 ys (by omega) (fun j u hu => World.news_of_block hv j u (by simpa using hu)) h1 h63 hb hbase
  unfold Oper.wp
  simp only [execOp, ho, resolve, invoke, builtin, Sem.run_bind, Sem.run_pure, Result.andThen_ok, List.map_toArray, List.map_cons, List.map_nil, hs, hx, hrun]
  refine hK _ _ (h v' w' ⟨h2, h3, fun b hb => ?_⟩)
  rcases h5 with e | e
  · exact Or.inl (by rw [← e]; exact hb)
  · rw [hb] at e
    exact Or.inr (by rw [Option.some.inj e]; exact Nat.le_refl _)

set_option maxRecDepth 100000 in
/-- append of so many zero values, where there is no room for them: a new row -/
theorem wpl_zerosR {w : World} {ops : Array Oper} {rest : List Oper} {o : Oper} {a : Act} {Q : Exit → Act → World → Prop} (hgd : o.guard = none) (sl x : Operand) (tS E : TypeId) (i0 : TypeInfo) (z : Value) (σ bytes : Nat)
    (hS : Try.prog.underlying tS = some (.slice E)) (hi : Try.prog.info? E = some i0) (hz0 : i0.zero = some z) (hz1 : i0.size = σ) (hz2 : i0.bytes = bytes) (hzc : z.cells.size = σ) (hsz : 0 < σ)
    (ho : o.op = .call { callee := .builtin .append, args := #[sl, x], argTypes := #[tS, 3] })
    (b len cap k : Nat) (hs : a.eval sl = .slice (some ⟨b, 0, none⟩) len cap) (hx : a.eval x = .int .i64 (k : Int)) (olds : List Value) (hol : olds.length = len * σ) (hold : ∀ j v, olds[j]? = some v → w.cell? ((⟨b, 0, none⟩ : Addr).add j) = some v)
    (hk : 0 < k) (hg : cap < len + k) (hb : (len + k) * bytes ≤ 140737488355328) (h63 : len + k ≤ maxLen)
    (h : ∀ cap' w' (zs : List Value), len + k ≤ cap' → cap' ≤ maxLen → Hid (w'.heap[w.heap.size]? = some (.cells (olds ++ zs).toArray E (0, 0)) ∧ (olds ++ zs).length = cap' * σ ∧ Below w.heap.size w w' ∧ w'.heap.size = w.heap.size + 1) → wpList Try.prog ops Q rest (a.put o.dst (.slice (some ⟨w.heap.size, 0, none⟩) (len + k) cap')) w') :
    wpList Try.prog ops Q (o :: rest) a w := by
  refine wpList_plain hgd fun K hK => ?_
  have hf : (Builtin.firstCells i0.size len (.slice (some ⟨b, 0, none⟩) len cap)).run Try.prog w.drew = .ok olds.toArray w.drew := run_firstCells_some (P := Try.prog) (w := w.drew) i0.size len ⟨b, 0, none⟩ len cap olds (by rw [hz1]; exact hol) hold
  have hkb : k * i0.bytes ≤ 281474976710656 := by
    rw [hz2]
    have : k * bytes ≤ (len + k) * bytes := Nat.mul_le_mul_right _ (by omega)
    omega
  have hrun := Lib.run_append_grow_zeros (P := Try.prog) w tS 3 o.type E i0 z .i64 .i64 hS Try.underlying3 hi hz0 (some ⟨b, 0, none⟩) len cap olds hf k hk (by omega) hg (by unfold maxLen at h63; omega) hkb (growslice_fits hg (by rw [hz2]; exact hb))
  unfold Oper.wp
  simp only [execOp, ho, resolve, invoke, builtin, Sem.run_bind, Sem.run_pure, Result.andThen_ok, List.map_toArray, List.map_cons, List.map_nil, hs, hx, hrun]
  have hge := grownCap_ge w (len + k) cap E
  have hle := grownCap_le_maxLen w (len + k) cap E h63
  refine hK _ _ (h _ _ ((Builtin.zeroCells z.cells k).toList ++ (Builtin.zeroCells z.cells (grownCap w (len + k) cap E - (len + k))).toList) hge hle ⟨?_, ?_, ?_, ?_⟩)
  · have := heap_alloc_new w.drew (.cells (olds.toArray ++ Builtin.zeroCells z.cells k ++ Builtin.zeroCells z.cells (grownCap w (len + k) cap E - (len + k))) E)
    rw [show (olds ++ ((Builtin.zeroCells z.cells k).toList ++ (Builtin.zeroCells z.cells (grownCap w (len + k) cap E - (len + k))).toList)).toArray = olds.toArray ++ Builtin.zeroCells z.cells k ++ Builtin.zeroCells z.cells (grownCap w (len + k) cap E - (len + k)) by simp]
    exact this
  · have e1 : (Builtin.zeroCells z.cells k).toList.length = k * σ := by rw [Array.length_toList, size_zeroCells, hzc]
    have e2 : (Builtin.zeroCells z.cells (grownCap w (len + k) cap E - (len + k))).toList.length = (grownCap w (len + k) cap E - (len + k)) * σ := by rw [Array.length_toList, size_zeroCells, hzc]
    rw [List.length_append, List.length_append, e1, e2, hol, ← Nat.add_mul, ← Nat.add_mul]
    have e3 : len + (k + (grownCap w (len + k) cap E - (len + k))) = grownCap w (len + k) cap E := by omega
    rw [e3]
  · exact ((Below.refl _ _).drew).alloc (Nat.le_refl _) _
  · simp

theorem add_offR (b o j : Nat) : (⟨b, o, none⟩ : Addr).add j = ⟨b, o + j, none⟩ := by
  unfold Addr.add
  split
  · simp_all
  · simp
end Go.Proofs.Ytcopkhmmpamboaa

/-
  copy between rows whose elements have two cells, as a law for the walk and for a region that draws; slices.overlaps of two blocks; no conditions.
-/
import Derived.Test.YtflopmhjgamcfaaTRow
import Derived.Laws.CopyRow
import Derived.Laws.CopyOwn
import Derived.Lib.Overlaps
import Derived.Lib.AppendZerosOnto
import Derived.Deep.RegionLaw
namespace Go.Proofs.Ytflopmhjgamcfaa
open Go.RowKit

/-- one block of cells is another row, all else is as it was -/
structure Laid (w w' : World) (g : Nat) (cs : List Value) (t : TypeId) : Prop where
  here : w'.heap[g]? = some (.cells cs.toArray t (0, 0))
  os : w'.os = w.os
  tape : w'.tape = w.tape
  output : w'.output = w.output
  size : w'.heap.size = w.heap.size
  other : ∀ k, k ≠ g → w'.heap[k]? = w.heap[k]?

theorem laid_setRow {w : World} {g : Nat} {cur : Array Value} {t : TypeId} (hg : w.heap[g]? = some (.cells cur t (0, 0))) (cs : List Value) : Laid w (w.setRow g cs.toArray) g cs t :=
  ⟨setRow_heap w g cur _ t _ hg, rfl, rfl, rfl, by simp [World.setRow], fun k hk => setRow_other w g k _ hk⟩

theorem run_copy2 {P : Program} (w : World) (dT sT ty elem : TypeId) (i0 : TypeInfo) (g o dLen dCap : Nat) (a : Addr) (sLen sCap : Nat) (cur : List Value) (t : TypeId) (cs : List Value)
    (hu : P.underlying dT = some (.slice elem)) (hi : P.info? elem = some i0) (hs : i0.size = 2)
    (hg : w.heap[g]? = some (.cells cur.toArray t (0, 0))) (n : Nat) (hn : Nat.min sLen dLen = n) (hcs : cs.length = n * 2)
    (hsrc : ∀ j v, cs[j]? = some v → w.cell? (a.add j) = some v) (hfit : o + cs.length ≤ cur.length) (h1 : ∀ v ∈ cs, v.oneCell' = true) :
    (Builtin.copy_ #[dT, sT] ty #[.slice (some ⟨g, o, none⟩) dLen dCap, .slice (some a) sLen sCap]).run P w =
      .ok (goInt n) (w.setRow g (splice cur o cs).toArray) := by
  have hl := run_loadCells_list (P := P) w a cs hsrc
  have hst := run_storeCells_at P g o t cs 0 cur.toArray w hg (by simpa using hfit) h1
  rw [hcs] at hl
  simp [Builtin.copy_, run_underlying hu, Builtin.lenOf, Builtin.firstCells, sizeOf, typeInfo, hi, hs, hn, hl, hst, splice]

/-- copy, at a plain region's list -/
theorem wpl_copy2 {P : Program} {w : World} {ops : Array Oper} {rest : List Oper} {o : Oper} {a : Act} {Q : Exit → Act → World → Prop} (hgd : o.guard = none) (d s : Operand) (dT sT elem : TypeId) (i0 : TypeInfo)
    (ho : o.op = .call { callee := .builtin .copy, args := #[d, s], argTypes := #[dT, sT] }) (hu : P.underlying dT = some (.slice elem)) (hi : P.info? elem = some i0) (hs2 : i0.size = 2)
    (g off dLen dCap : Nat) (ad : Addr) (sLen sCap : Nat) (hd : a.eval d = .slice (some ⟨g, off, none⟩) dLen dCap) (hs : a.eval s = .slice (some ad) sLen sCap)
    (cur : List Value) (t : TypeId) (hg : w.heap[g]? = some (.cells cur.toArray t (0, 0))) (cs : List Value) (n : Nat) (hn : Nat.min sLen dLen = n) (hcs : cs.length = n * 2)
    (hsrc : ∀ j v, cs[j]? = some v → w.cell? (ad.add j) = some v) (hfit : off + cs.length ≤ cur.length) (h1 : ∀ v ∈ cs, v.oneCell' = true)
    (h : ∀ w', Hid (Laid w w' g (splice cur off cs) t) → wpList P ops Q rest (a.put o.dst (goInt n)) w') : wpList P ops Q (o :: rest) a w := by
  refine wpList_plain hgd fun K hK => ?_
  have hrun := run_copy2 (P := P) w dT sT o.type elem i0 g off dLen dCap ad sLen sCap cur t cs hu hi hs2 hg n hn hcs hsrc hfit h1
  unfold Oper.wp
  simp only [execOp, ho, resolve, invoke, builtin, Sem.run_bind, Sem.run_pure, Result.andThen_ok, List.map_toArray, List.map_cons, List.map_nil, hd, hs, hrun]
  exact hK _ _ (h _ (laid_setRow hg _))

/-- copy, at a step of a region that draws -/
theorem step_copy2 {P : Program} {w : World} {ops : Array Oper} {o : Oper} {a : Act} {K : Act → World → Prop} {Q : Exit → Act → World → Prop} {E : Prop} (hgd : o.guard = none) (d s : Operand) (dT sT elem : TypeId) (i0 : TypeInfo)
    (ho : o.op = .call { callee := .builtin .copy, args := #[d, s], argTypes := #[dT, sT] }) (hu : P.underlying dT = some (.slice elem)) (hi : P.info? elem = some i0) (hs2 : i0.size = 2)
    (g off dLen dCap : Nat) (ad : Addr) (sLen sCap : Nat) (hd : a.eval d = .slice (some ⟨g, off, none⟩) dLen dCap) (hs : a.eval s = .slice (some ad) sLen sCap)
    (cur : List Value) (t : TypeId) (hg : w.heap[g]? = some (.cells cur.toArray t (0, 0))) (cs : List Value) (n : Nat) (hn : Nat.min sLen dLen = n) (hcs : cs.length = n * 2)
    (hsrc : ∀ j v, cs[j]? = some v → w.cell? (ad.add j) = some v) (hfit : off + cs.length ≤ cur.length) (h1 : ∀ v ∈ cs, v.oneCell' = true)
    (h : ∀ w', Hid (Laid w w' g (splice cur off cs) t) → K (a.put o.dst (goInt n)) w') :
    if Region.wanted o (yielded ops a.tmps) = true then Oper.wp P o a w K Q else E := by
  rw [if_pos (show Region.wanted o (yielded ops a.tmps) = true by simp [Region.wanted, hgd])]
  have hrun := run_copy2 (P := P) w dT sT o.type elem i0 g off dLen dCap ad sLen sCap cur t cs hu hi hs2 hg n hn hcs hsrc hfit h1
  unfold Oper.wp
  simp only [execOp, ho, resolve, invoke, builtin, Sem.run_bind, Sem.run_pure, Result.andThen_ok, List.map_toArray, List.map_cons, List.map_nil, hd, hs, hrun]
  exact h _ (laid_setRow hg _)

/-- append of so many zero values, where there is no room for them: a new row -/
theorem wpl_zeros2 {P : Program} {w : World} {ops : Array Oper} {rest : List Oper} {o : Oper} {a : Act} {Q : Exit → Act → World → Prop} (hgd : o.guard = none) (sl x : Operand) (tS E : TypeId) (i0 : TypeInfo) (z : Value) (bytes : Nat)
    (hS : P.underlying tS = some (.slice E)) (h3 : P.underlying 3 = some (.int .i64)) (hi : P.info? E = some i0) (hz0 : i0.zero = some z) (hz1 : i0.size = 2) (hz2 : i0.bytes = bytes) (hzc : z.cells.size = 2)
    (ho : o.op = .call { callee := .builtin .append, args := #[sl, x], argTypes := #[tS, 3] })
    (b len cap k : Nat) (hs : a.eval sl = .slice (some ⟨b, 0, none⟩) len cap) (hx : a.eval x = .int .i64 (k : Int)) (olds : List Value) (hol : olds.length = len * 2) (hold : ∀ j v, olds[j]? = some v → w.cell? ((⟨b, 0, none⟩ : Addr).add j) = some v)
    (hk : 0 < k) (hg : cap < len + k) (hb : (len + k) * bytes ≤ 140737488355328) (h63 : len + k ≤ maxLen)
    (h : ∀ cap' w' (zs : List Value), len + k ≤ cap' → cap' ≤ maxLen → Hid (w'.heap[w.heap.size]? = some (.cells (olds ++ zs).toArray E (0, 0)) ∧ (olds ++ zs).length = cap' * 2 ∧ Below w.heap.size w w' ∧ w'.heap.size = w.heap.size + 1) → wpList P ops Q rest (a.put o.dst (.slice (some ⟨w.heap.size, 0, none⟩) (len + k) cap')) w') :
    wpList P ops Q (o :: rest) a w := by
  refine wpList_plain hgd fun K hK => ?_
  have hf : (Builtin.firstCells i0.size len (.slice (some ⟨b, 0, none⟩) len cap)).run P w.drew = .ok olds.toArray w.drew := run_firstCells_some (P := P) (w := w.drew) i0.size len ⟨b, 0, none⟩ len cap olds (by rw [hz1]; exact hol) hold
  have hkb : k * i0.bytes ≤ 281474976710656 := by
    rw [hz2]
    have : k * bytes ≤ (len + k) * bytes := Nat.mul_le_mul_right _ (by omega)
    omega
  have hrun := Lib.run_append_grow_zeros (P := P) w tS 3 o.type E i0 z .i64 .i64 hS h3 hi hz0 (some ⟨b, 0, none⟩) len cap olds hf k hk (by omega) hg (by unfold maxLen at h63; omega) hkb (growslice_fits hg (by rw [hz2]; exact hb))
  unfold Oper.wp
  simp only [execOp, ho, resolve, invoke, builtin, Sem.run_bind, Sem.run_pure, Result.andThen_ok, List.map_toArray, List.map_cons, List.map_nil, hs, hx, hrun]
  have hge := grownCap_ge w (len + k) cap E
  have hle := grownCap_le_maxLen w (len + k) cap E h63
  refine hK _ _ (h _ _ ((Builtin.zeroCells z.cells k).toList ++ (Builtin.zeroCells z.cells (grownCap w (len + k) cap E - (len + k))).toList) hge hle ⟨?_, ?_, ?_, ?_⟩)
  · have := heap_alloc_new w.drew (.cells (olds.toArray ++ Builtin.zeroCells z.cells k ++ Builtin.zeroCells z.cells (grownCap w (len + k) cap E - (len + k))) E)
    rw [show (olds ++ ((Builtin.zeroCells z.cells k).toList ++ (Builtin.zeroCells z.cells (grownCap w (len + k) cap E - (len + k))).toList)).toArray = olds.toArray ++ Builtin.zeroCells z.cells k ++ Builtin.zeroCells z.cells (grownCap w (len + k) cap E - (len + k)) by simp]
    exact this
  · simp [hol, size_zeroCells, hzc]
    omega
  · exact ((Below.refl _ _).drew).alloc (Nat.le_refl _) _
  · simp

theorem add_off (b o j : Nat) : (⟨b, o, none⟩ : Addr).add j = ⟨b, o + j, none⟩ := by
  unfold Addr.add
  split
  · simp_all
  · simp

theorem min_le' {a b : Nat} (h : b ≤ a) : Nat.min a b = b := Nat.min_eq_right h

/-- what the two copies leave: room for one pair, and the pair -/
theorem splice_two (cur : List Value) (l : List (Value × Value)) (x y : Value) (i : Nat) (hi : i ≤ l.length) (hc : (l.length + 1) * 2 ≤ cur.length) (ht : cur.take (i * 2) = cells2 (l.take i)) :
    (splice (splice cur ((i + 1) * 2) (cells2 (l.drop i))) (i * 2) [x, y]).take ((l.length + 1) * 2) = cells2 (l.take i ++ (x, y) :: l.drop i) ∧ (splice (splice cur ((i + 1) * 2) (cells2 (l.drop i))) (i * 2) [x, y]).length = cur.length := by
  have hl : (cells2 (l.drop i)).length = (l.length - i) * 2 := by rw [cells2_len, List.length_drop]
  have h1 : (splice cur ((i + 1) * 2) (cells2 (l.drop i))).length = cur.length := length_splice _ _ _ (by rw [hl]; omega)
  have hp : (cells2 (l.take i)).length = i * 2 := by rw [cells2_len, List.length_take, Nat.min_eq_left hi]
  refine ⟨?_, ?_⟩
  · unfold splice
    have e1 : (cur.take ((i + 1) * 2) ++ (cells2 (l.drop i) ++ cur.drop ((i + 1) * 2 + (cells2 (l.drop i)).length))).take (i * 2) = cells2 (l.take i) := by
      rw [List.take_append_of_le_length (by rw [List.length_take]; omega), List.take_take, Nat.min_eq_left (by omega), ht]
    have e2 : (cur.take ((i + 1) * 2) ++ (cells2 (l.drop i) ++ cur.drop ((i + 1) * 2 + (cells2 (l.drop i)).length))).drop (i * 2 + [x, y].length) = cells2 (l.drop i) ++ cur.drop ((i + 1) * 2 + (cells2 (l.drop i)).length) := by
      have : i * 2 + [x, y].length = (cur.take ((i + 1) * 2)).length := by
        rw [List.length_take, Nat.min_eq_left (by omega)]
        simp
        omega
      rw [this, List.drop_left]
    rw [e1, e2, cells2_append, cells2_cons]
    rw [List.take_append, hp, List.take_of_length_le (by rw [hp]; omega)]
    congr 1
    have e3 : (l.length + 1) * 2 - i * 2 = 2 + (cells2 (l.drop i)).length := by rw [hl]; omega
    rw [e3]
    simp only [List.cons_append, List.nil_append]
    rw [show 2 + (cells2 (l.drop i)).length = (cells2 (l.drop i)).length + 1 + 1 by omega, List.take_succ_cons, List.take_succ_cons, List.take_left]
  · rw [length_splice _ _ _ (by rw [h1]; simp; omega), h1]

/-- the same, the pair first -/
theorem splice_two' (cur : List Value) (l : List (Value × Value)) (x y : Value) (i : Nat) (hi : i ≤ l.length) (hc : (l.length + 1) * 2 ≤ cur.length) (ht : cur.take (i * 2) = cells2 (l.take i)) :
    (splice (splice cur (i * 2) [x, y]) ((i + 1) * 2) (cells2 (l.drop i))).take ((l.length + 1) * 2) = cells2 (l.take i ++ (x, y) :: l.drop i) ∧ (splice (splice cur (i * 2) [x, y]) ((i + 1) * 2) (cells2 (l.drop i))).length = cur.length := by
  have hl : (cells2 (l.drop i)).length = (l.length - i) * 2 := by rw [cells2_len, List.length_drop]
  have h1 : (splice cur (i * 2) [x, y]).length = cur.length := length_splice _ _ _ (by simp; omega)
  have hp : (cells2 (l.take i)).length = i * 2 := by rw [cells2_len, List.length_take, Nat.min_eq_left hi]
  refine ⟨?_, ?_⟩
  · unfold splice
    have e1 : (cur.take (i * 2) ++ ([x, y] ++ cur.drop (i * 2 + [x, y].length))).take ((i + 1) * 2) = cells2 (l.take i) ++ [x, y] := by
      rw [ht, ← List.append_assoc, List.take_append_of_le_length (by rw [List.length_append, hp]; simp; omega), List.take_of_length_le (by rw [List.length_append, hp]; simp; omega)]
    rw [e1, cells2_append, cells2_cons]
    rw [← List.append_assoc, List.take_append_of_le_length (by rw [List.length_append, List.length_append, hp, hl]; simp; omega), List.take_of_length_le (by rw [List.length_append, List.length_append, hp, hl]; simp; omega)]
    simp
  · rw [length_splice _ _ _ (by rw [h1, hl]; omega), h1]
end Go.Proofs.Ytflopmhjgamcfaa

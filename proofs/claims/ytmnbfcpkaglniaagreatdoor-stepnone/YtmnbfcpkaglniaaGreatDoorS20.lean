/-
  slices.Insert of one whole number into a row of the call's own that may begin within its block; no conditions but that the row's bytes are within 2^47.
-/
import Derived.Test.YtmnbfcpkaglniaaGreatDoorS19
import Derived.Test.YtmnbfcpkaglniaaGreatDoorS05
import Derived.Lib.AppendZerosOnto
import Derived.Lib.Overlaps
import Derived.Laws.CopyOwn
import Derived.Maps.AppendAt
import Derived.Deep.RegionHeld3
set_option linter.unusedVariables false
set_option linter.unusedSimpArgs false
namespace Go.Proofs.YtmnbfcpkaglniaaGreatDoor
open Go.RowKit
set_option linter.unusedVariables false
set_option linter.unusedSimpArgs false
/-- first the rest behind, then what comes in -/
theorem splice_in (cur xs ys : List Value) (σ N I : Nat) (hx : xs.length = N) (hy : ys.length = σ) (hi : I ≤ N) (hc : N + σ ≤ cur.length) (ht : cur.take I = xs.take I) :
    (splice (splice cur (I + σ) (xs.drop I)) I ys).take (N + σ) = xs.take I ++ ys ++ xs.drop I ∧ (splice (splice cur (I + σ) (xs.drop I)) I ys).length = cur.length := by
  have hd : (xs.drop I).length = N - I := by rw [List.length_drop, hx]
  have h1 : (splice cur (I + σ) (xs.drop I)).length = cur.length := length_splice _ _ _ (by rw [hd]; omega)
  refine ⟨?_, by rw [length_splice _ _ _ (by rw [h1, hy]; omega), h1]⟩
  have e1 : (splice cur (I + σ) (xs.drop I)).take I = xs.take I := by
    unfold splice
    rw [List.take_append_of_le_length (by rw [List.length_take]; omega), List.take_take, Nat.min_eq_left (by omega), ht]
  have e2 : (splice cur (I + σ) (xs.drop I)).drop (I + ys.length) = xs.drop I ++ cur.drop (I + σ + (xs.drop I).length) := by
    unfold splice
    have : I + ys.length = (cur.take (I + σ)).length := by rw [List.length_take, Nat.min_eq_left (by omega), hy]
    rw [this, List.drop_left]
  have hl : (xs.take I ++ ys ++ xs.drop I).length = N + σ := by
    simp only [List.length_append, List.length_take, hd, hx, hy]
    omega
  have e3 : splice (splice cur (I + σ) (xs.drop I)) I ys = (xs.take I ++ ys ++ xs.drop I) ++ cur.drop (I + σ + (xs.drop I).length) := by
    rw [splice, e1, e2]
    simp
  rw [e3, ← hl, List.take_left]
/-- the other way round -/
theorem splice_in' (cur xs ys : List Value) (σ N I : Nat) (hx : xs.length = N) (hy : ys.length = σ) (hi : I ≤ N) (hc : N + σ ≤ cur.length) (ht : cur.take I = xs.take I) :
    (splice (splice cur I ys) (I + σ) (xs.drop I)).take (N + σ) = xs.take I ++ ys ++ xs.drop I ∧ (splice (splice cur I ys) (I + σ) (xs.drop I)).length = cur.length := by
  have hd : (xs.drop I).length = N - I := by rw [List.length_drop, hx]
  have h1 : (splice cur I ys).length = cur.length := length_splice _ _ _ (by rw [hy]; omega)
  refine ⟨?_, by rw [length_splice _ _ _ (by rw [h1, hd]; omega), h1]⟩
  have e1 : (splice cur I ys).take (I + σ) = xs.take I ++ ys := by
    unfold splice
    rw [ht, ← List.append_assoc]
    have : I + σ = (xs.take I ++ ys).length := by rw [List.length_append, List.length_take, hx, hy, Nat.min_eq_left hi]
    rw [this, List.take_left]
  have hl : (xs.take I ++ ys ++ xs.drop I).length = N + σ := by
    simp only [List.length_append, List.length_take, hd, hx, hy]
    omega
  have e3 : splice (splice cur I ys) (I + σ) (xs.drop I) = (xs.take I ++ ys ++ xs.drop I) ++ (splice cur I ys).drop (I + σ + (xs.drop I).length) := by
    conv => lhs; unfold splice
    rw [show (List.take I cur ++ (ys ++ List.drop (I + ys.length) cur)) = splice cur I ys from rfl, e1]
    simp
  rw [e3, ← hl, List.take_left]
/-- one block of cells is another row, all else is as it was -/
structure LaidR (w w' : World) (g : Nat) (cs : List Value) (t : TypeId) : Prop where
  here : w'.heap[g]? = some (.cells cs.toArray t (0, 0))
  os : w'.os = w.os
  tape : w'.tape = w.tape
  output : w'.output = w.output
  size : w'.heap.size = w.heap.size
  other : ∀ k, k ≠ g → w'.heap[k]? = w.heap[k]?
theorem laidR_set {w : World} {g : Nat} {cur : Array Value} {t : TypeId} (hg : w.heap[g]? = some (.cells cur t (0, 0))) (cs : List Value) : LaidR w (w.setRow g cs.toArray) g cs t :=
  ⟨setRow_heap w g cur _ t _ hg, rfl, rfl, rfl, by simp [World.setRow], fun k hk => setRow_other w g k _ hk⟩
theorem run_copyR (w : World) (dT sT ty elem : TypeId) (i0 : TypeInfo) (σ g o dLen dCap : Nat) (a : Addr) (sLen sCap : Nat) (cur : List Value) (t : TypeId) (cs : List Value)
    (hu : Tryz.prog.underlying dT = some (.slice elem)) (hi : Tryz.prog.info? elem = some i0) (hs : i0.size = σ)
    (hg : w.heap[g]? = some (.cells cur.toArray t (0, 0))) (n : Nat) (hn : Nat.min sLen dLen = n) (hcs : cs.length = n * σ)
    (hsrc : ∀ j v, cs[j]? = some v → w.cell? (a.add j) = some v) (hfit : o + cs.length ≤ cur.length) (h1 : ∀ v ∈ cs, v.oneCell' = true) :
    (Builtin.copy_ #[dT, sT] ty #[.slice (some ⟨g, o, none⟩) dLen dCap, .slice (some a) sLen sCap]).run Tryz.prog w =
      .ok (goInt n) (w.setRow g (splice cur o cs).toArray) := by
  have hl := run_loadCells_list (P := Tryz.prog) w a cs hsrc
  have hst := run_storeCells_at Tryz.prog g o t cs 0 cur.toArray w hg (by simpa using hfit) h1
  rw [hcs] at hl
  simp [Builtin.copy_, run_underlying hu, Builtin.lenOf, Builtin.firstCells, sizeOf, typeInfo, hi, hs, hn, hl, hst, splice]
/-- copy, at a plain region's list -/
theorem wpl_copyR {w : World} {ops : Array Oper} {rest : List Oper} {o : Oper} {a : Act} {Q : Exit → Act → World → Prop} (hgd : o.guard = none) (d s : Operand) (dT sT elem : TypeId) (i0 : TypeInfo) (σ : Nat)
    (ho : o.op = .call { callee := .builtin .copy, args := #[d, s], argTypes := #[dT, sT] }) (hu : Tryz.prog.underlying dT = some (.slice elem)) (hi : Tryz.prog.info? elem = some i0) (hs2 : i0.size = σ)
    (g off dLen dCap : Nat) (ad : Addr) (sLen sCap : Nat) (hd : a.eval d = .slice (some ⟨g, off, none⟩) dLen dCap) (hs : a.eval s = .slice (some ad) sLen sCap)
    (cur : List Value) (t : TypeId) (hg : w.heap[g]? = some (.cells cur.toArray t (0, 0))) (cs : List Value) (n : Nat) (hn : Nat.min sLen dLen = n) (hcs : cs.length = n * σ)
    (hsrc : ∀ j v, cs[j]? = some v → w.cell? (ad.add j) = some v) (hfit : off + cs.length ≤ cur.length) (h1 : ∀ v ∈ cs, v.oneCell' = true)
    (h : ∀ w', Hid (LaidR w w' g (splice cur off cs) t) → wpList Tryz.prog ops Q rest (a.put o.dst (goInt n)) w') : wpList Tryz.prog ops Q (o :: rest) a w := by
  refine wpList_plain hgd fun K hK => ?_
  have hrun := run_copyR w dT sT o.type elem i0 σ g off dLen dCap ad sLen sCap cur t cs hu hi hs2 hg n hn hcs hsrc hfit h1
  unfold Oper.wp
  simp only [execOp, ho, resolve, invoke, builtin, Sem.run_bind, Sem.run_pure, Result.andThen_ok, List.map_toArray, List.map_cons, List.map_nil, hd, hs, hrun]
  exact hK _ _ (h _ (laidR_set hg _))
/-- copy, at a step of a region that draws -/
theorem step_copyR {w : World} {ops : Array Oper} {o : Oper} {a : Act} {K : Act → World → Prop} {Q : Exit → Act → World → Prop} {E : Prop} (hgd : o.guard = none) (d s : Operand) (dT sT elem : TypeId) (i0 : TypeInfo) (σ : Nat)
    (ho : o.op = .call { callee := .builtin .copy, args := #[d, s], argTypes := #[dT, sT] }) (hu : Tryz.prog.underlying dT = some (.slice elem)) (hi : Tryz.prog.info? elem = some i0) (hs2 : i0.size = σ)
    (g off dLen dCap : Nat) (ad : Addr) (sLen sCap : Nat) (hd : a.eval d = .slice (some ⟨g, off, none⟩) dLen dCap) (hs : a.eval s = .slice (some ad) sLen sCap)
    (cur : List Value) (t : TypeId) (hg : w.heap[g]? = some (.cells cur.toArray t (0, 0))) (cs : List Value) (n : Nat) (hn : Nat.min sLen dLen = n) (hcs : cs.length = n * σ)
    (hsrc : ∀ j v, cs[j]? = some v → w.cell? (ad.add j) = some v) (hfit : off + cs.length ≤ cur.length) (h1 : ∀ v ∈ cs, v.oneCell' = true)
    (h : ∀ w', Hid (LaidR w w' g (splice cur off cs) t) → K (a.put o.dst (goInt n)) w') :
    if Region.wanted o (yielded ops a.tmps) = true then Oper.wp Tryz.prog o a w K Q else E := by
  rw [if_pos (show Region.wanted o (yielded ops a.tmps) = true by simp [Region.wanted, hgd])]
  have hrun := run_copyR w dT sT o.type elem i0 σ g off dLen dCap ad sLen sCap cur t cs hu hi hs2 hg n hn hcs hsrc hfit h1
  unfold Oper.wp
  simp only [execOp, ho, resolve, invoke, builtin, Sem.run_bind, Sem.run_pure, Result.andThen_ok, List.map_toArray, List.map_cons, List.map_nil, hd, hs, hrun]
  exact h _ (laidR_set hg _)
set_option maxRecDepth 100000 in
/-- append of so many zero values, where there is no room for them: a new row -/
theorem wpl_zerosO {w : World} {ops : Array Oper} {rest : List Oper} {o : Oper} {a : Act} {Q : Exit → Act → World → Prop} (hgd : o.guard = none) (sl x : Operand) (tS E : TypeId) (i0 : TypeInfo) (z : Value) (σ bytes : Nat)
    (hS : Tryz.prog.underlying tS = some (.slice E)) (hi : Tryz.prog.info? E = some i0) (hz0 : i0.zero = some z) (hz1 : i0.size = σ) (hz2 : i0.bytes = bytes) (hzc : z.cells.size = σ) (hsz : 0 < σ)
    (ho : o.op = .call { callee := .builtin .append, args := #[sl, x], argTypes := #[tS, 3] })
    (ad : Addr) (len cap k : Nat) (hs : a.eval sl = .slice (some ad) len cap) (hx : a.eval x = .int .i64 (k : Int)) (olds : List Value) (hol : olds.length = len * σ) (hold : ∀ j v, olds[j]? = some v → w.cell? (ad.add j) = some v)
    (hk : 0 < k) (hg : cap < len + k) (hb : (len + k) * bytes ≤ 140737488355328) (h63 : len + k ≤ maxLen)
    (h : ∀ cap' w' (zs : List Value), len + k ≤ cap' → cap' ≤ maxLen → Hid (w'.heap[w.heap.size]? = some (.cells (olds ++ zs).toArray E (0, 0)) ∧ (olds ++ zs).length = cap' * σ ∧ Below w.heap.size w w' ∧ w'.heap.size = w.heap.size + 1) → wpList Tryz.prog ops Q rest (a.put o.dst (.slice (some ⟨w.heap.size, 0, none⟩) (len + k) cap')) w') :
    wpList Tryz.prog ops Q (o :: rest) a w := by
  refine wpList_plain hgd fun K hK => ?_
  have hf : (Builtin.firstCells i0.size len (.slice (some ad) len cap)).run Tryz.prog w.drew = .ok olds.toArray w.drew := run_firstCells_some (P := Tryz.prog) (w := w.drew) i0.size len ad len cap olds (by rw [hz1]; exact hol) hold
  have hkb : k * i0.bytes ≤ 281474976710656 := by
    rw [hz2]
    have : k * bytes ≤ (len + k) * bytes := Nat.mul_le_mul_right _ (by omega)
    omega
  have hrun := Lib.run_append_grow_zeros (P := Tryz.prog) w tS 3 o.type E i0 z .i64 .i64 hS Tryz.underlying3 hi hz0 (some ad) len cap olds hf k hk (by omega) hg (by unfold maxLen at h63; omega) hkb (growslice_fits hg (by rw [hz2]; exact hb))
  unfold Oper.wp
  simp only [execOp, ho, resolve, invoke, builtin, Sem.run_bind, Sem.run_pure, Result.andThen_ok, List.map_toArray, List.map_cons, List.map_nil, hs, hx, hrun]
  have hge := grownCap_ge w (len + k) cap E
  have hle := grownCap_le_maxLen w (len + k) cap E h63
  refine hK _ _ (h _ _ ((Builtin.zeroCells z.cells k).toList ++ (Builtin.zeroCells z.cells (grownCap w (len + k) cap E - (len + k))).toList) hge hle ⟨?_, ?_, ?_, ?_⟩)
  · have := heap_alloc_new w.drew (.cells (olds.toArray ++ Builtin.zeroCells z.cells k ++ Builtin.zeroCells z.cells (grownCap w (len + k) cap E - (len + k))) E)
    rw [show (olds ++ ((Builtin.zeroCells z.cells k).toList ++ (Builtin.zeroCells z.cells (grownCap w (len + k) cap E - (len + k))).toList)).toArray = olds.toArray ++ Builtin.zeroCells z.cells k ++ Builtin.zeroCells z.cells (grownCap w (len + k) cap E - (len + k)) by simp]
    exact this
  · have e1 : (Builtin.zeroCells z.cells k).toList.length = k * σ := by rw [Array.length_toList, size_zeroCells, hzc]
    have e2 : (Builtin.zeroCells z.cells (grownCap w (len + k) cap E - (len + k))).toList.length = (grownCap w (len + k) cap E - (len + k)) * σ := by rw [Array.length_toList, size_zeroCells, hzc]
    rw [List.length_append, List.length_append, e1, e2, hol, ← Nat.add_mul, ← Nat.add_mul]
    have e3 : len + (k + (grownCap w (len + k) cap E - (len + k))) = grownCap w (len + k) cap E := by omega
    rw [e3]
  · exact ((Below.refl _ _).drew).alloc (Nat.le_refl _) _
  · simp
theorem add_offR (b o j : Nat) : (⟨b, o, none⟩ : Addr).add j = ⟨b, o + j, none⟩ := by
  unfold Addr.add
  split
  · simp_all
  · simp
/-- whole numbers of the call's own, from a place of their block on -/
def Off (w : World) (base : Nat) (v : Value) (xs : List Int) : Prop :=
  (v = .slice none 0 0 ∧ xs = []) ∨ ∃ (g o cap : Nat) (cur : List Value), v = .slice (some ⟨g, o, none⟩) xs.length cap ∧ base ≤ g ∧ w.heap[g]? = some (.cells cur.toArray 3 (0, 0)) ∧ xs.length ≤ cap ∧ o + cap ≤ cur.length ∧ cap ≤ maxLen ∧ (cur.drop o).take xs.length = xs.map (Value.int .i64)
theorem Off.later {w w' : World} {base : Nat} {v : Value} {xs : List Int} (h : Off w base v xs) (hb : ∀ b, v.ownBlock = some b → b < w.heap.size → w'.heap[b]? = w.heap[b]?) : Off w' base v xs := by
  rcases h with h | ⟨g, o, cap, cur, rfl, h1, h2, h3⟩
  · exact .inl h
  · exact .inr ⟨g, o, cap, cur, rfl, h1, (hb g rfl (Array.getElem?_eq_some_iff.1 h2).1).trans h2, h3⟩
theorem Off.below {w w' : World} {base : Nat} {v : Value} {xs : List Int} (h : Off w base v xs) (hb : Below w.heap.size w w') : Off w' base v xs := h.later (fun b _ hl => hb.block b hl)
theorem Off.lt {w : World} {base : Nat} {v : Value} {xs : List Int} (h : Off w base v xs) {b : Nat} (hb : v.ownBlock = some b) : base ≤ b ∧ b < w.heap.size := by
  rcases h with ⟨rfl, _⟩ | ⟨g, o, cap, cur, rfl, h1, h2, _⟩
  · cases hb
  · cases hb
    exact ⟨h1, (Array.getElem?_eq_some_iff.1 h2).1⟩
theorem Off.cellTy {w : World} {base : Nat} {v : Value} {xs : List Int} (h : Off w base v xs) {b : Nat} (hb : v.ownBlock = some b) : ∃ c, w.heap[b]? = some (.cells c 3 (0, 0)) := by
  rcases h with ⟨rfl, _⟩ | ⟨g, o, cap, cur, rfl, h1, h2, _⟩
  · cases hb
  · cases hb
    exact ⟨_, h2⟩
/-- it can be read -/
theorem Off.read {w : World} {base : Nat} {v : Value} {xs : List Int} (h : Off w base v xs) : ∃ ao cap, v = .slice ao xs.length cap ∧ ∀ j z, xs[j]? = some z → ∃ a, ao = some a ∧ w.cell? (a.add j) = some (.int .i64 z) := by
  rcases h with ⟨rfl, rfl⟩ | ⟨g, o, cap, cur, rfl, h1, h2, h3, h4, h5, h6⟩
  · exact ⟨none, 0, rfl, fun j z h => by simp at h⟩
  · refine ⟨_, cap, rfl, fun j z hj => ⟨_, rfl, ?_⟩⟩
    rw [add_offR, cell_of_row w g _ _ _ (0, 0) h2]
    have e : (xs.map (Value.int .i64))[j]? = some (.int .i64 z) := by rw [List.getElem?_map, hj]; rfl
    rw [← h6, List.getElem?_take] at e
    split at e
    · rw [List.getElem?_drop] at e
      simpa using e
    · cases e
theorem infoInt : (Tryz.prog.info? 3).map (fun i => (i.zero, i.size, i.bytes)) = some (some (.int .i64 0), 1, 8) := by kernel_rfl
theorem drop_splice (cur cs : List Value) (o a : Nat) (h : o + a ≤ cur.length) : (splice cur (o + a) cs).drop o = splice (cur.drop o) a cs := by
  unfold splice
  rw [List.drop_append_of_le_length (by rw [List.length_take]; omega), List.drop_take, List.drop_drop, Nat.add_sub_cancel_left, Nat.add_assoc]
theorem ints_one (xs : List Int) : ∀ u ∈ xs.map (Value.int .i64), u.oneCell' = true := fun u hu => by
  obtain ⟨x, _, rfl⟩ := List.mem_map.1 hu
  rfl
/-- append of one more -/
theorem run_appO (w : World) (tS ty : TypeId) (hS : Tryz.prog.underlying tS = some (.slice 3)) (base : Nat) (v : Value) (xs : List Int) (z : Int) (gv : Nat) (h : Off w base v xs) (hv : w.heap[gv]? = some (.cells #[.int .i64 z] 3 (0, 0))) (hb : (xs.length + 1) * 8 ≤ 140737488355328) (hbase : base ≤ w.heap.size) :
    ∃ v' w', (Builtin.append_ #[tS, tS] ty #[v, .slice (some ⟨gv, 0, none⟩) 1 1]).run Tryz.prog w = .ok v' w' ∧ Off w' base v' (xs ++ [z]) ∧ Grew w w' v v' := by
  obtain ⟨i0, hi, hz0, hz1, hz2⟩ := info_parts infoInt
  have hnews : ∀ j u, [Value.int .i64 z][j]? = some u → w.cell? ((⟨gv, 0, none⟩ : Addr).add j) = some u := fun j u hu => World.news_of_block hv j u (by simpa using hu)
  have hge : ∀ old, xs.length + 1 ≤ grownCap w (xs.length + 1) old 3 := fun old => grownCap_ge w _ old _
  have hle : ∀ old, grownCap w (xs.length + 1) old 3 ≤ maxLen := fun old => grownCap_le_maxLen w _ old _ (by unfold maxLen; omega)
  have grown : ∀ old, Off (w.drew.alloc (.cells ((xs.map (Value.int .i64)).toArray ++ [Value.int .i64 z].toArray ++ Builtin.zeroCells (Value.int .i64 0).cells (grownCap w (xs.length + 1) old 3 - (xs.length + 1))) 3)) base (.slice (some ⟨w.heap.size, 0, none⟩) (xs.length + 1) (grownCap w (xs.length + 1) old 3)) (xs ++ [z]) := fun old => by
    refine .inr ⟨w.heap.size, 0, _, xs.map (Value.int .i64) ++ [Value.int .i64 z] ++ (Builtin.zeroCells (Value.int .i64 0).cells (grownCap w (xs.length + 1) old 3 - (xs.length + 1))).toList, by simp, hbase, ?_, by simpa using hge old, ?_, hle old, ?_⟩
    · have := heap_alloc_new w.drew (.cells ((xs.map (Value.int .i64)).toArray ++ [Value.int .i64 z].toArray ++ Builtin.zeroCells (Value.int .i64 0).cells (grownCap w (xs.length + 1) old 3 - (xs.length + 1))) 3)
      rw [show (xs.map (Value.int .i64) ++ [Value.int .i64 z] ++ (Builtin.zeroCells (Value.int .i64 0).cells (grownCap w (xs.length + 1) old 3 - (xs.length + 1))).toList).toArray = (xs.map (Value.int .i64)).toArray ++ [Value.int .i64 z].toArray ++ Builtin.zeroCells (Value.int .i64 0).cells (grownCap w (xs.length + 1) old 3 - (xs.length + 1)) by simp]
      exact this
    · have e : (Builtin.zeroCells (Value.int .i64 0).cells (grownCap w (xs.length + 1) old 3 - (xs.length + 1))).toList.length = (grownCap w (xs.length + 1) old 3 - (xs.length + 1)) * 1 := by rw [Array.length_toList, size_zeroCells]; rfl
      rw [List.length_append, e, List.length_append, List.length_map, List.length_singleton]
      have := hge old
      omega
    · rw [List.drop_zero, List.map_append]
      have : (xs ++ [z]).length = (xs.map (Value.int .i64) ++ List.map (Value.int .i64) [z]).length := by simp
      rw [this]
      exact List.take_left
  have gr : ∀ (o : Obj) (row : Option Nat), w.grownBy (w.drew.alloc o) row := fun o row => ⟨rfl, rfl, rfl, by simp, fun k hk _ => heap_alloc_old w.drew _ hk⟩
  rcases h with ⟨rfl, rfl⟩ | ⟨g, o, cap, cur, rfl, h1, h2, h3, h4, h5, h6⟩
  · have hr := run_append_nil (P := Tryz.prog) w tS ty 3 i0 _ hS hi hz0 ⟨gv, 0, none⟩ 1 1 [Value.int .i64 z] (by rw [hz1]; rfl) hnews (by omega) (by omega) (by rw [hz2]; omega)
    refine ⟨_, _, hr, ?_, gr _ _, fun b hb => .inr ?_⟩
    · have := grown 0
      simpa using this
    · simp only [Value.ownBlock, Option.some.injEq] at hb
      omega
  · have holds : ∀ j u, (xs.map (Value.int .i64))[j]? = some u → w.cell? ((⟨g, o, none⟩ : Addr).add j) = some u := fun j u hu => by
      rw [add_offR, cell_of_row w g _ _ _ (0, 0) h2]
      rw [← h6, List.getElem?_take] at hu
      split at hu
      · rw [List.getElem?_drop] at hu
        simpa using hu
      · cases hu
    by_cases hroom : xs.length + 1 ≤ cap
    · have hf := run_firstCells_some (P := Tryz.prog) w i0.size 1 ⟨gv, 0, none⟩ 1 1 [Value.int .i64 z] (by rw [hz1]; rfl) hnews
      have hst := run_storeCells_at Tryz.prog g (o + xs.length) 3 [Value.int .i64 z] 0 cur.toArray w h2 (by simp; omega) (by simp [Value.oneCell'])
      simp only [Nat.add_zero] at hst
      have e1 : splice cur (o + xs.length) [Value.int .i64 z] = cur.toArray.toList.take (o + xs.length) ++ [Value.int .i64 z] ++ cur.toArray.toList.drop (o + xs.length + [Value.int .i64 z].length) := by simp [splice]
      rw [← e1] at hst
      have hr : (Builtin.append_ #[tS, tS] ty #[.slice (some ⟨g, o, none⟩) xs.length cap, .slice (some ⟨gv, 0, none⟩) 1 1]).run Tryz.prog w = .ok (.slice (some ⟨g, o, none⟩) (xs.length + 1) cap) (w.setRow g (splice cur (o + xs.length) [Value.int .i64 z]).toArray) := by
        simp [Builtin.append_, run_underlying hS, sizeOf, typeInfo, hi, hz1, Builtin.lenOf, hroom, Addr.add_lit] at hf ⊢
        rw [hf]
        simp [hst]
      refine ⟨_, _, hr, .inr ⟨g, o, cap, splice cur (o + xs.length) [Value.int .i64 z], by simp, h1, setRow_heap w g cur.toArray _ 3 _ h2, by simpa using hroom, ?_, h5, ?_⟩, ⟨rfl, rfl, rfl, by simp [World.setRow], fun k _ hk => setRow_other w g k _ (fun e => hk (by simp [Value.ownBlock, e]))⟩, fun b hb => .inl hb⟩
      · rw [length_splice _ _ _ (by simp; omega)]
        exact h4
      · rw [drop_splice _ _ _ _ (by omega)]
        unfold splice
        rw [h6, ← List.append_assoc, List.map_append]
        have : (xs ++ [z]).length = (xs.map (Value.int .i64) ++ List.map (Value.int .i64) [z]).length := by simp
        rw [this]
        exact List.take_left
    · have hr := run_append_grow (P := Tryz.prog) w tS ty 3 i0 _ hS hi hz0 ⟨g, o, none⟩ xs.length cap (xs.map (Value.int .i64)) (by rw [hz1]; simp) holds ⟨gv, 0, none⟩ 1 1 [Value.int .i64 z] (by rw [hz1]; rfl) hnews (by omega) (by omega) (growslice_fits (by omega) (by rw [hz2]; exact hb))
      refine ⟨_, _, hr, grown cap, gr _ _, fun b hb => .inr ?_⟩
      simp only [Value.ownBlock, Option.some.injEq] at hb
      omega
theorem wpl_appO {w : World} {ops : Array Oper} {rest : List Oper} {o : Oper} {a : Act} {Q : Exit → Act → World → Prop} (hgd : o.guard = none) (sl x : Operand) (tS : TypeId) (hS : Tryz.prog.underlying tS = some (.slice 3))
    (ho : o.op = .call { callee := .builtin .append, args := #[sl, x], argTypes := #[tS, tS] })
    (base : Nat) (v : Value) (xs : List Int) (z : Int) (gv : Nat) (hs : a.eval sl = v) (hx : a.eval x = .slice (some ⟨gv, 0, none⟩) 1 1) (h0 : Off w base v xs) (hv : w.heap[gv]? = some (.cells #[.int .i64 z] 3 (0, 0))) (hb : (xs.length + 1) * 8 ≤ 140737488355328) (hbase : base ≤ w.heap.size)
    (h : ∀ v' w', Hid (Off w' base v' (xs ++ [z]) ∧ Grew w w' v v') → wpList Tryz.prog ops Q rest (a.put o.dst v') w') : wpList Tryz.prog ops Q (o :: rest) a w := by
  refine wpList_plain hgd fun K hK => ?_
  obtain ⟨v', w', hrun, h2⟩ := run_appO w tS o.type hS base v xs z gv h0 hv hb hbase
  unfold Oper.wp
  simp only [execOp, ho, resolve, invoke, builtin, Sem.run_bind, Sem.run_pure, Result.andThen_ok, List.map_toArray, List.map_cons, List.map_nil, hs, hx, hrun]
  exact hK _ _ (h v' w' h2)
end Go.Proofs.YtmnbfcpkaglniaaGreatDoor

/-
  What the two copies of slices.Insert leave in a row of cells, whatever an element's size, and copy as a step over such a row; no conditions.
-/
import Derived.Test.YtgkmdjmigehmeaaGreatDoorR06
import Derived.Lib.AppendZerosOnto
import Derived.Lib.Overlaps
import Derived.Laws.CopyOwn
import Derived.Maps.AppendAt
import Derived.Test.YtgkmdjmigehmeaaGreatDoorR08
import Derived.Deep.RegionHeld3
namespace Go.Proofs.YtgkmdjmigehmeaaGreatDoor
set_option linter.unusedVariables false
set_option linter.unusedSimpArgs false
set_option maxRecDepth 100000
set_option maxHeartbeats 16000000
open Go.RowKit
theorem splice_in (cur xs ys : List Value) (σ N I : Nat) (hx : xs.length = N) (hy : ys.length = σ) (hi : I ≤ N) (hc : N + σ ≤ cur.length) (ht : cur.take I = xs.take I) :
  (splice (splice cur (I + σ) (xs.drop I)) I ys).take (N + σ) = xs.take I ++ ys ++ xs.drop I ∧ (splice (splice cur (I + σ) (xs.drop I)) I ys).length = cur.length := by
 have hd : (xs.drop I).length = N - I := by rw [List.length_drop, hx]
 have h1 : (splice cur (I + σ) (xs.drop I)).length = cur.length := length_splice _ _ _ (by rw [hd]; omega)
 refine ⟨?_, by rw [length_splice _ _ _ (by rw [h1, hy]; omega), h1]⟩
 have e1 : (splice cur (I + σ) (xs.drop I)).take I = xs.take I := by
  unfold splice
  rw [List.take_append_of_le_length (by rw [List.length_take]; omega), List.take_take, Nat.min_eq_left (by omega), ht]
 have e2 : (splice cur (I + σ) (xs.drop I)).drop (I + ys.length) = xs.drop I ++ cur.drop (I + σ + (xs.drop I).length) := by
  unfold splice
  have : I + ys.length = (cur.take (I + σ)).length := by rw [List.length_take, Nat.min_eq_left (by omega), hy]
  rw [this, List.drop_left]
 have hl : (xs.take I ++ ys ++ xs.drop I).length = N + σ := by
  simp only [List.length_append, List.length_take, hd, hx, hy]
  omega
 have e3 : splice (splice cur (I + σ) (xs.drop I)) I ys = (xs.take I ++ ys ++ xs.drop I) ++ cur.drop (I + σ + (xs.drop I).length) := by
  rw [splice, e1, e2]
  simp
 rw [e3, ← hl, List.take_left]
theorem splice_in' (cur xs ys : List Value) (σ N I : Nat) (hx : xs.length = N) (hy : ys.length = σ) (hi : I ≤ N) (hc : N + σ ≤ cur.length) (ht : cur.take I = xs.take I) :
  (splice (splice cur I ys) (I + σ) (xs.drop I)).take (N + σ) = xs.take I ++ ys ++ xs.drop I ∧ (splice (splice cur I ys) (I + σ) (xs.drop I)).length = cur.length := by
 have hd : (xs.drop I).length = N - I := by rw [List.length_drop, hx]
 have h1 : (splice cur I ys).length = cur.length := length_splice _ _ _ (by rw [hy]; omega)
 refine ⟨?_, by rw [length_splice _ _ _ (by rw [h1, hd]; omega), h1]⟩
 have e1 : (splice cur I ys).take (I + σ) = xs.take I ++ ys := by
  unfold splice
  rw [ht, ← List.append_assoc]
  have : I + σ = (xs.take I ++ ys).length := by rw [List.length_append, List.length_take, hx, hy, Nat.min_eq_left hi]
  rw [this, List.take_left]
 have hl : (xs.take I ++ ys ++ xs.drop I).length = N + σ := by
  simp only [List.length_append, List.length_take, hd, hx, hy]
  omega
 have e3 : splice (splice cur I ys) (I + σ) (xs.drop I) = (xs.take I ++ ys ++ xs.drop I) ++ (splice cur I ys).drop (I + σ + (xs.drop I).length) := by
  conv => lhs; unfold splice
  rw [show (List.take I cur ++ (ys ++ List.drop (I + ys.length) cur)) = splice cur I ys from rfl, e1]
  simp
 rw [e3, ← hl, List.take_left]
structure LaidR (w w' : World) (g : Nat) (cs : List Value) (t : TypeId) : Prop where
 here : w'.heap[g]? = some (.cells cs.toArray t (0, 0))
 os : w'.os = w.os
 tape : w'.tape = w.tape
 output : w'.output = w.output
 size : w'.heap.size = w.heap.size
 other : ∀ k, k ≠ g → w'.heap[k]? = w.heap[k]?
theorem laidR_set {w : World} {g : Nat} {cur : Array Value} {t : TypeId} (hg : w.heap[g]? = some (.cells cur t (0, 0))) (cs : List Value) : LaidR w (w.setRow g cs.toArray) g cs t :=
 ⟨setRow_heap w g cur _ t _ hg, rfl, rfl, rfl, by simp [World.setRow], fun k hk => setRow_other w g k _ hk⟩
theorem run_copyR (w : World) (dT sT ty elem : TypeId) (i0 : TypeInfo) (σ g o dLen dCap : Nat) (a : Addr) (sLen sCap : Nat) (cur : List Value) (t : TypeId) (cs : List Value)
  (hu : Tryz.prog.underlying dT = some (.slice elem)) (hi : Tryz.prog.info? elem = some i0) (hs : i0.size = σ)
  (hg : w.heap[g]? = some (.cells cur.toArray t (0, 0))) (n : Nat) (hn : Nat.min sLen dLen = n) (hcs : cs.length = n * σ)
  (hsrc : ∀ j v, cs[j]? = some v → w.cell? (a.add j) = some v) (hfit : o + cs.length ≤ cur.length) (h1 : ∀ v ∈ cs, v.oneCell' = true) :
  (Builtin.copy_ #[dT, sT] ty #[.slice (some ⟨g, o, none⟩) dLen dCap, .slice (some a) sLen sCap]).run Tryz.prog w =
   .ok (goInt n) (w.setRow g (splice cur o cs).toArray) := by
 have hl := run_loadCells_list (P := Tryz.prog) w a cs hsrc
 have hst := run_storeCells_at Tryz.prog g o t cs 0 cur.toArray w hg (by simpa using hfit) h1
 rw [hcs] at hl
 simp [Builtin.copy_, run_underlying hu, Builtin.lenOf, Builtin.firstCells, sizeOf, typeInfo, hi, hs, hn, hl, hst, splice]
theorem wpl_copyR {w : World} {ops : Array Oper} {rest : List Oper} {o : Oper} {a : Act} {Q : Exit → Act → World → Prop} (hgd : o.guard = none) (d s : Operand) (dT sT elem : TypeId) (i0 : TypeInfo) (σ : Nat)
  (ho : o.op = .call { callee := .builtin .copy, args := #[d, s], argTypes := #[dT, sT] }) (hu : Tryz.prog.underlying dT = some (.slice elem)) (hi : Tryz.prog.info? elem = some i0) (hs2 : i0.size = σ)
  (g off dLen dCap : Nat) (ad : Addr) (sLen sCap : Nat) (hd : a.eval d = .slice (some ⟨g, off, none⟩) dLen dCap) (hs : a.eval s = .slice (some ad) sLen sCap)
  (cur : List Value) (t : TypeId) (hg : w.heap[g]? = some (.cells cur.toArray t (0, 0))) (cs : List Value) (n : Nat) (hn : Nat.min sLen dLen = n) (hcs : cs.length = n * σ)
  (hsrc : ∀ j v, cs[j]? = some v → w.cell? (ad.add j) = some v) (hfit : off + cs.length ≤ cur.length) (h1 : ∀ v ∈ cs, v.oneCell' = true)
  (h : ∀ w', Hid (LaidR w w' g (splice cur off cs) t) → wpList Tryz.prog ops Q rest (a.put o.dst (goInt n)) w') : wpList Tryz.prog ops Q (o :: rest) a w := by
 refine wpList_plain hgd fun K hK => ?_
 have hrun := run_copyR w dT sT o.type elem i0 σ g off dLen dCap ad sLen sCap cur t cs hu hi hs2 hg n hn hcs hsrc hfit h1
 unfold Oper.wp
 simp only [execOp, ho, resolve, invoke, builtin, Sem.run_bind, Sem.run_pure, Result.andThen_ok, List.map_toArray, List.map_cons, List.map_nil, hd, hs, hrun]
 exact hK _ _ (h _ (laidR_set hg _))
theorem step_copyR {w : World} {ops : Array Oper} {o : Oper} {a : Act} {K : Act → World → Prop} {Q : Exit → Act → World → Prop} {E : Prop} (hgd : o.guard = none) (d s : Operand) (dT sT elem : TypeId) (i0 : TypeInfo) (σ : Nat)
  (ho : o.op = .call { callee := .builtin .copy, args := #[d, s], argTypes := #[dT, sT] }) (hu : Tryz.prog.underlying dT = some (.slice elem)) (hi : Tryz.prog.info? elem = some i0) (hs2 : i0.size = σ)
  (g off dLen dCap : Nat) (ad : Addr) (sLen sCap : Nat) (hd : a.eval d = .slice (some ⟨g, off, none⟩) dLen dCap) (hs : a.eval s = .slice (some ad) sLen sCap)
  (cur : List Value) (t : TypeId) (hg : w.heap[g]? = some (.cells cur.toArray t (0, 0))) (cs : List Value) (n : Nat) (hn : Nat.min sLen dLen = n) (hcs : cs.length = n * σ)
  (hsrc : ∀ j v, cs[j]? = some v → w.cell? (ad.add j) = some v) (hfit : off + cs.length ≤ cur.length) (h1 : ∀ v ∈ cs, v.oneCell' = true)
  (h : ∀ w', Hid (LaidR w w' g (splice cur off cs) t) → K (a.put o.dst (goInt n)) w') :
  if Region.wanted o (yielded ops a.tmps) = true then Oper.wp Tryz.prog o a w K Q else E := by
 rw [if_pos (show Region.wanted o (yielded ops a.tmps) = true by simp [Region.wanted, hgd])]
 have hrun := run_copyR w dT sT o.type elem i0 σ g off dLen dCap ad sLen sCap cur t cs hu hi hs2 hg n hn hcs hsrc hfit h1
 unfold Oper.wp
 simp only [execOp, ho, resolve, invoke, builtin, Sem.run_bind, Sem.run_pure, Result.andThen_ok, List.map_toArray, List.map_cons, List.map_nil, hd, hs, hrun]
 exact h _ (laidR_set hg _)
theorem wpl_appR {w : World} {ops : Array Oper} {rest : List Oper} {o : Oper} {a : Act} {Q : Exit → Act → World → Prop} (hgd : o.guard = none) (sl x : Operand) (tS e : TypeId) (i0 : TypeInfo) (z : Value) (σ bytes : Nat)
  (hS : Tryz.prog.underlying tS = some (.slice e)) (hi : Tryz.prog.info? e = some i0) (hz0 : i0.zero = some z) (hz1 : i0.size = σ) (hz2 : i0.bytes = bytes) (hzc : z.cells.size = σ) (hsz : 0 < σ)
  (ho : o.op = .call { callee := .builtin .append, args := #[sl, x], argTypes := #[tS, tS] })
  (base n : Nat) (v : Value) (xs : List Value) (hs : a.eval sl = v) (hown : w.ownsRow base e σ v n xs) (gv : Nat) (ys : List Value) (hx : a.eval x = .slice (some ⟨gv, 0, none⟩) 1 1) (hv : w.heap[gv]? = some (.cells ys.toArray e (0, 0))) (hys : ys.length = σ) (h1 : ∀ u ∈ ys, u.oneCell' = true)
  (h63 : n + 1 ≤ maxLen) (hb : (n + 1) * bytes ≤ 140737488355328) (hbase : base ≤ w.heap.size)
  (h : ∀ v' w', Hid (w'.ownsRow base e σ v' (n + 1) (xs ++ ys) ∧ Grew w w' v v') → wpList Tryz.prog ops Q rest (a.put o.dst v') w') : wpList Tryz.prog ops Q (o :: rest) a w := by
 refine wpList_plain hgd fun K hK => ?_
 obtain ⟨v', w', hrun, h2, h3, _, h5⟩ := run_append_own_at (P := Tryz.prog) w base tS o.type e i0 z σ bytes hS hi hz0 hz1 hz2 hzc hsz v n xs hown ⟨gv, 0, none⟩ 1 1 ys (by omega) (fun j u hu => World.news_of_block hv j u (by simpa using hu)) h1 h63 hb hbase
 unfold Oper.wp
 simp only [execOp, ho, resolve, invoke, builtin, Sem.run_bind, Sem.run_pure, Result.andThen_ok, List.map_toArray, List.map_cons, List.map_nil, hs, hx, hrun]
 refine hK _ _ (h v' w' ⟨h2, h3, fun b hb => ?_⟩)
 rcases h5 with e | e
 ·exact Or.inl (by rw [← e]; exact hb)
 ·rw [hb] at e
  exact Or.inr (by rw [Option.some.inj e]; exact Nat.le_refl _)
theorem wpl_zerosR {w : World} {ops : Array Oper} {rest : List Oper} {o : Oper} {a : Act} {Q : Exit → Act → World → Prop} (hgd : o.guard = none) (sl x : Operand) (tS E : TypeId) (i0 : TypeInfo) (z : Value) (σ bytes : Nat)
  (hS : Tryz.prog.underlying tS = some (.slice E)) (hi : Tryz.prog.info? E = some i0) (hz0 : i0.zero = some z) (hz1 : i0.size = σ) (hz2 : i0.bytes = bytes) (hzc : z.cells.size = σ) (hsz : 0 < σ)
  (ho : o.op = .call { callee := .builtin .append, args := #[sl, x], argTypes := #[tS, 3] })
  (b len cap k : Nat) (hs : a.eval sl = .slice (some ⟨b, 0, none⟩) len cap) (hx : a.eval x = .int .i64 (k : Int)) (olds : List Value) (hol : olds.length = len * σ) (hold : ∀ j v, olds[j]? = some v → w.cell? ((⟨b, 0, none⟩ : Addr).add j) = some v)
  (hk : 0 < k) (hg : cap < len + k) (hb : (len + k) * bytes ≤ 140737488355328) (h63 : len + k ≤ maxLen)
  (h : ∀ cap' w' (zs : List Value), len + k ≤ cap' → cap' ≤ maxLen → Hid (w'.heap[w.heap.size]? = some (.cells (olds ++ zs).toArray E (0, 0)) ∧ (olds ++ zs).length = cap' * σ ∧ Below w.heap.size w w' ∧ w'.heap.size = w.heap.size + 1) → wpList Tryz.prog ops Q rest (a.put o.dst (.slice (some ⟨w.heap.size, 0, none⟩) (len + k) cap')) w') :
  wpList Tryz.prog ops Q (o :: rest) a w := by
 refine wpList_plain hgd fun K hK => ?_
 have hf : (Builtin.firstCells i0.size len (.slice (some ⟨b, 0, none⟩) len cap)).run Tryz.prog w.drew = .ok olds.toArray w.drew := run_firstCells_some (P := Tryz.prog) (w := w.drew) i0.size len ⟨b, 0, none⟩ len cap olds (by rw [hz1]; exact hol) hold
 have hkb : k * i0.bytes ≤ 281474976710656 := by
  rw [hz2]
  have : k * bytes ≤ (len + k) * bytes := Nat.mul_le_mul_right _ (by omega)
  omega
 have hrun := Lib.run_append_grow_zeros (P := Tryz.prog) w tS 3 o.type E i0 z .i64 .i64 hS Tryz.underlying3 hi hz0 (some ⟨b, 0, none⟩) len cap olds hf k hk (by omega) hg (by unfold maxLen at h63; omega) hkb (growslice_fits hg (by rw [hz2]; exact hb))
 unfold Oper.wp
 simp only [execOp, ho, resolve, invoke, builtin, Sem.run_bind, Sem.run_pure, Result.andThen_ok, List.map_toArray, List.map_cons, List.map_nil, hs, hx, hrun]
 have hge := grownCap_ge w (len + k) cap E
 have hle := grownCap_le_maxLen w (len + k) cap E h63
 refine hK _ _ (h _ _ ((Builtin.zeroCells z.cells k).toList ++ (Builtin.zeroCells z.cells (grownCap w (len + k) cap E - (len + k))).toList) hge hle ⟨?_, ?_, ?_, ?_⟩)
 ·have := heap_alloc_new w.drew (.cells (olds.toArray ++ Builtin.zeroCells z.cells k ++ Builtin.zeroCells z.cells (grownCap w (len + k) cap E - (len + k))) E)
  rw [show (olds ++ ((Builtin.zeroCells z.cells k).toList ++ (Builtin.zeroCells z.cells (grownCap w (len + k) cap E - (len + k))).toList)).toArray = olds.toArray ++ Builtin.zeroCells z.cells k ++ Builtin.zeroCells z.cells (grownCap w (len + k) cap E - (len + k)) by simp]
  exact this
 ·have e1 : (Builtin.zeroCells z.cells k).toList.length = k * σ := by rw [Array.length_toList, size_zeroCells, hzc]
  have e2 : (Builtin.zeroCells z.cells (grownCap w (len + k) cap E - (len + k))).toList.length = (grownCap w (len + k) cap E - (len + k)) * σ := by rw [Array.length_toList, size_zeroCells, hzc]
  rw [List.length_append, List.length_append, e1, e2, hol, ← Nat.add_mul, ← Nat.add_mul]
  have e3 : len + (k + (grownCap w (len + k) cap E - (len + k))) = grownCap w (len + k) cap E := by omega
  rw [e3]
 ·exact ((Below.refl _ _).drew).alloc (Nat.le_refl _) _
 ·simp
theorem add_offR (b o j : Nat) : (⟨b, o, none⟩ : Addr).add j = ⟨b, o + j, none⟩ := by
 unfold Addr.add
 split
 ·simp_all
 ·simp
theorem insEndS (base : Nat) (v : Value) (ys xs : List Value) (n gv : Nat) (w : World) (ho : w.ownsRow base 9 1 v n xs) (hv : w.heap[gv]? = some (.cells ys.toArray 9 (0, 0))) (hys : ys.length = 1) (h1 : ∀ u ∈ ys, u.oneCell' = true) (hb : (n + 1) * 16 ≤ 140737488355328) (hbase : base ≤ w.heap.size) :
  Calls Tryz.prog 134 #[v, .int .i64 n, .slice (some ⟨gv, 0, none⟩) 1 1] w fun e w' => ∃ v', e = .returned v' ∧ w'.ownsRow base 9 1 v' (n + 1) (xs ++ ys) ∧ Grew w w' v v' := by
 obtain ⟨i0, hi, hz0, hz1, hz2⟩ := info_parts infoSc
 have HO := hide ho
 have HV := hide hv
 have HP := hide (And.intro hys (And.intro h1 (And.intro hb hbase)))
 have HI := hide (And.intro hi (And.intro hz0 (And.intro hz1 hz2)))
 clear hi hz0 hz1 hz2
 rcases ho.2 with ⟨rfl, rfl⟩ | ⟨b, cap, cur, rfl, hbg, hg, hnc, hcm, hcs, htk⟩
 ·clear ho hv hys h1 hbase
  go_enter Tryz.func134, Tryz.ntmps134
  go_wp2_with (first | (at_builtin; refine wpl_appR rfl (.tmp 23) (.tmp 24) 23 9 i0 _ 1 16 Tryz.underlying23 (uh HI).1 (uh HI).2.1 (uh HI).2.2.1 (uh HI).2.2.2 rfl (by omega) rfl base 0 (.slice none 0 0) xs rfl (uh HO) gv ys rfl (uh HV) (uh HP).1 (uh HP).2.1 (by unfold maxLen; omega) (by omega) (uh HP).2.2.2 ?_; intro v2 w2 o2))
  go_ret
  exact ⟨_, rfl, (uh o2).1, (uh o2).2.grown, (uh o2).2.row⟩
 ·have hmx : cap ≤ 9223372036854775807 := by unfold maxLen at hcm; omega
  have i1 : (0 : Int) ≤ (n : Int) := by omega
  have i2 : (n : Int) ≤ (cap : Int) := by omega
  have i3 : (n : Int) ≤ (n : Int) := by omega
  clear ho hv hys h1 hbase hg hcs htk hbg hcm
  go_enter Tryz.func134, Tryz.ntmps134
  go_wp2_with (first | (at_builtin; refine wpl_appR rfl (.tmp 23) (.tmp 24) 23 9 i0 _ 1 16 Tryz.underlying23 (uh HI).1 (uh HI).2.1 (uh HI).2.2.1 (uh HI).2.2.2 rfl (by omega) rfl base n (.slice (some ⟨b, 0, none⟩) n cap) xs rfl (uh HO) gv ys rfl (uh HV) (uh HP).1 (uh HP).2.1 (by unfold maxLen; omega) (by omega) (uh HP).2.2.2 ?_; intro v2 w2 o2))
  all_goals (go_ret; exact ⟨_, rfl, (uh o2).1, (uh o2).2.grown, (uh o2).2.row⟩)
theorem sizeRS (w : World) : (Go.sizeOf 9).run Tryz.prog w = .ok 1 w := Tryz.sizeOf9 w
theorem insShiftS (base : Nat) (ys xs : List Value) (n i b cap gv : Nat) (w : World) (ho : w.ownsRow base 9 1 (.slice (some ⟨b, 0, none⟩) n cap) n xs) (hv : w.heap[gv]? = some (.cells ys.toArray 9 (0, 0))) (hne : gv ≠ b) (hys : ys.length = 1) (h1y : ∀ u ∈ ys, u.oneCell' = true) (h1x : ∀ u ∈ xs, u.oneCell' = true) (hi : i < n) (hroom : n + 1 ≤ cap) :
  Calls Tryz.prog 134 #[.slice (some ⟨b, 0, none⟩) n cap, .int .i64 i, .slice (some ⟨gv, 0, none⟩) 1 1] w fun e w' => ∃ v', e = .returned v' ∧ w'.ownsRow base 9 1 v' (n + 1) (xs.take (i * 1) ++ ys ++ xs.drop (i * 1)) ∧ Grew w w' (.slice (some ⟨b, 0, none⟩) n cap) v' := by
 obtain ⟨i0, hi0, hz0, hz1, hz2⟩ := info_parts infoSc
 have hxl := ho.1
 obtain ⟨cur, hbase, hg, hm, hcs, htk⟩ : ∃ cur : List Value, base ≤ b ∧ w.heap[b]? = some (.cells cur.toArray 9 (0, 0)) ∧ cap ≤ maxLen ∧ cur.length = cap * 1 ∧ cur.take (n * 1) = xs := by
  rcases ho.2 with ⟨e, _⟩ | ⟨g, cap', cur, e, hb, hg, hc, hm, hs, ht⟩
  ·cases e
  ·cases e
   exact ⟨cur.toList, hb, by simpa using hg, hm, by simpa using hs, ht⟩
 have hcm : cap ≤ 9223372036854775807 := by unfold maxLen at hm; omega
 have hti : cur.take (i * 1) = xs.take (i * 1) := by rw [← htk, List.take_take, Nat.min_eq_left (by omega)]
 have hsrc : ∀ (u : World), u.heap[b]? = some (.cells cur.toArray 9 (0, 0)) → ∀ j v, (xs.drop (i * 1))[j]? = some v → u.cell? ((⟨b, i, none⟩ : Addr).add j) = some v := fun u hu j v hj => by
  rw [add_offR, cell_of_row u b _ _ _ (0, 0) hu]
  rw [List.getElem?_drop, ← htk] at hj
  rw [List.getElem?_take] at hj
  split at hj
  ·simpa using hj
  ·cases hj
 have hov : ∀ lb cb, (callFunc 156 #[.slice (some ⟨gv, 0, none⟩) 1 1, .slice (some ⟨b, i + 1, none⟩) lb cb]).run Tryz.prog w = .ok (.value (.bool false)) w := fun lb cb => by
  rw [run_callFunc_extern Tryz.func156 (by kernel_rfl) (by kernel_rfl) (by kernel_rfl) (e := Extern.SlicesOverlaps.overlaps #[23, 23] #[4]) (by kernel_rfl),
   Lib.run_overlaps_apart w 23 4 9 Tryz.underlying23 1 sizeRS ⟨gv, 0, none⟩ ⟨b, i + 1, none⟩ 1 1 lb cb hne 9 9 1 (cap * 1) (by simp [World.shape?, hv, hys]) (by simp [World.shape?, hg, hcs]) (by omega) (frozen_of_row w gv 0 _ _ hv) (frozen_of_row w gv 1 _ _ hv)]
  rfl
 have HO := hide ho
 have HV := hide hv
 have HP := hide (And.intro hys (And.intro h1y h1x))
 have HG := hide hg
 have HS := hide hsrc
 have HC := hide (And.intro hbase (And.intro hcs (And.intro hti (And.intro hm hxl))))
 have z1 : ¬ ((1 : Int) = 0) := by omega
 have z2 : ¬ ((i : Int) = (n : Int)) := by omega
 have z3 : ¬ (cap : Int) < (n : Int) + 1 := by omega
 have i1 : (0 : Int) ≤ (i : Int) := by omega
 have i2 : (i : Int) ≤ (n : Int) := by omega
 have i3 : (n : Int) + 1 ≤ (cap : Int) := by omega
 have i4 : (0 : Int) ≤ (i : Int) + 1 := by omega
 have i5 : (i : Int) + 1 ≤ (n : Int) + 1 := by omega
 have i6 : (i : Int) ≤ (n : Int) + 1 := by omega
 have i7 : ((i : Int) + 1).toNat = i + 1 := by omega
 have i8 : ((n : Int) + 1).toNat = n + 1 := by omega
 have i9 : ¬ (cap = i + 1) := by omega
 have i10 : ¬ (cap = i) := by omega
 clear ho hv hys h1y h1x hg hsrc hbase hcs hti hm htk hxl
 go_enter Tryz.func134, Tryz.ntmps134
 go_wp2_with (simp only [hov])
 have hw1 : IntKind.i64.wrap ((i : Int) + 1) = (i : Int) + 1 := by rw [IntKind.wrap_i64]; omega
 have HL : Hid ((xs.drop (i * 1)).length = (n - i) * 1) := hide (by rw [List.length_drop, (uh HC).2.2.2.2]; omega)
 have HF : Hid (i + 1 + (xs.drop (i * 1)).length ≤ cur.length) := hide (by have := (uh HC).2.1; rw [uh HL]; omega)
 have H1c : Hid (∀ u ∈ xs.drop (i * 1), u.oneCell' = true) := hide (fun u hu => (uh HP).2.2 u (List.mem_of_mem_drop hu))
 obtain ⟨ds, hds⟩ : ∃ ds, xs.drop (i * 1) = ds := ⟨_, rfl⟩
 rw [hds] at HL HF H1c HS
 have HDS := hide hds
 clear hds hov
 go_region_held3 (fun _ => True)
  (exact trivial)
  ((refine step_copyR (by rfl) (.tmp 73) (.tmp 76) 23 23 9 i0 1 (by rfl) Tryz.underlying23 hi0 hz1 b (i + 1) (n - i) (cap - (i + 1)) ⟨b, i, none⟩ (n + 1 - i) (cap - i) (by rfl) (by rfl) cur 9 (uh HG) ds (n - i) (Nat.min_eq_right (by omega)) (uh HL) (uh HS _ (uh HG)) (uh HF) (uh H1c) ?_; intro w1 H1))
 have HV1 : Hid (w1.heap[gv]? = some (.cells ys.toArray 9 (0, 0))) := hide (((uh H1).other gv hne).trans (uh HV))
 have HF1 : Hid (i + ys.length ≤ (splice cur (i + 1) ds).length) := hide (by rw [length_splice _ _ _ (uh HF)]; have := (uh HC).2.1; rw [(uh HP).1]; omega)
 have tok1 : True := trivial
 go_wp2_with (first | (have _t := tok1; refine wpl_copyR rfl (.tmp 80) (.tmp 81) 23 23 9 i0 1 rfl Tryz.underlying23 hi0 hz1 b (i) (n + 1 - i) (cap - i) ⟨gv, 0, none⟩ 1 1 rfl rfl (splice cur (i + 1) ds) 9 (uh H1).here ys 1 (Nat.min_eq_left (by omega)) (by rw [(uh HP).1]) (fun j u hu => World.news_of_block (uh HV1) j u (by simpa using hu)) (uh HF1) (uh HP).2.1 ?_; intro w2 H2; clear tok1))
 go_ret
 obtain ⟨hbase, hcs, hti, hm, hxl⟩ := uh HC
 obtain ⟨hs1, hs2⟩ := splice_in cur xs ys 1 (n * 1) (i * 1) hxl (uh HP).1 (by omega) (by omega) hti
 have ep : i * 1 + 1 = i + 1 := by omega
 have eq : i * 1 = i := by omega
 rw [uh HDS, ep, eq] at hs1 hs2
 have en : n * 1 + 1 = (n + 1) * 1 := by omega
 rw [en] at hs1
 have H2h := (uh H2).here
 refine ⟨.slice (some ⟨b, 0, none⟩) (n + 1) cap, rfl, ⟨?_, .inr ⟨b, cap, _, rfl, hbase, H2h, hroom, hm, by simp [hs2, hcs], ?_⟩⟩, ⟨⟨?_, ?_, ?_, ?_, fun k hk hne' => ?_⟩, fun c hc => .inl hc⟩⟩
 ·simp only [List.length_append, List.length_take, List.length_drop, hxl, (uh HP).1]
  omega
 ·rw [List.toList_toArray, uh HDS, eq]
  exact hs1
 ·exact (uh H2).os.trans (uh H1).os
 ·exact (uh H2).tape.trans (uh H1).tape
 ·exact (uh H2).output.trans (uh H1).output
 ·rw [(uh H2).size, (uh H1).size]
  exact Nat.le_refl _
 ·have hk2 : k ≠ b := fun e => hne' (by rw [e]; rfl)
  rw [(uh H2).other k hk2, (uh H1).other k hk2]
  rfl
theorem insGrowS (base : Nat) (ys xs : List Value) (n i b cap gv : Nat) (w : World) (ho : w.ownsRow base 9 1 (.slice (some ⟨b, 0, none⟩) n cap) n xs) (hv : w.heap[gv]? = some (.cells ys.toArray 9 (0, 0))) (hys : ys.length = 1) (h1y : ∀ u ∈ ys, u.oneCell' = true) (h1x : ∀ u ∈ xs, u.oneCell' = true) (hi : i < n) (hroom : cap < n + 1) (hb : (n + 1) * 16 ≤ 140737488355328) (hbase : base ≤ w.heap.size) :
  Calls Tryz.prog 134 #[.slice (some ⟨b, 0, none⟩) n cap, .int .i64 i, .slice (some ⟨gv, 0, none⟩) 1 1] w fun e w' => ∃ v', e = .returned v' ∧ w'.ownsRow base 9 1 v' (n + 1) (xs.take (i * 1) ++ ys ++ xs.drop (i * 1)) ∧ Grew w w' (.slice (some ⟨b, 0, none⟩) n cap) v' := by
 obtain ⟨i0, hi0, hz0, hz1, hz2⟩ := info_parts infoSc
 have hxl := ho.1
 obtain ⟨cur, hg, hle, hm, hcs, htk⟩ : ∃ cur : List Value, w.heap[b]? = some (.cells cur.toArray 9 (0, 0)) ∧ n ≤ cap ∧ cap ≤ maxLen ∧ cur.length = cap * 1 ∧ cur.take (n * 1) = xs := by
  rcases ho.2 with ⟨e, _⟩ | ⟨g, cap', cur, e, hb, hg, hc, hm, hs, ht⟩
  ·cases e
  ·cases e
   exact ⟨cur.toList, by simpa using hg, hc, hm, by simpa using hs, ht⟩
 have hcm : cap ≤ 9223372036854775807 := by unfold maxLen at hm; omega
 have hbl : b < w.heap.size := (Array.getElem?_eq_some_iff.1 hg).1
 have hgl : gv < w.heap.size := (Array.getElem?_eq_some_iff.1 hv).1
 have hti : cur.take (i * 1) = xs.take (i * 1) := by rw [← htk, List.take_take, Nat.min_eq_left (by omega)]
 have hsrc : ∀ (u : World), u.heap[b]? = some (.cells cur.toArray 9 (0, 0)) → ∀ j v, (xs.drop (i * 1))[j]? = some v → u.cell? ((⟨b, i, none⟩ : Addr).add j) = some v := fun u hu j v hj => by
  rw [add_offR, cell_of_row u b _ _ _ (0, 0) hu]
  rw [List.getElem?_drop, ← htk] at hj
  rw [List.getElem?_take] at hj
  split at hj
  ·simpa using hj
  ·cases hj
 have hold : ∀ j v, (xs.take (i * 1))[j]? = some v → w.cell? ((⟨b, 0, none⟩ : Addr).add j) = some v := fun j v hj => by
  rw [add_offR, cell_of_row w b _ _ _ (0, 0) hg]
  rw [← hti, List.getElem?_take] at hj
  split at hj
  ·simpa using hj
  ·cases hj
 have hlt : (xs.take (i * 1)).length = i * 1 := by rw [List.length_take, hxl, Nat.min_eq_left (by omega)]
 have HV := hide hv
 have HP := hide (And.intro hys (And.intro h1y h1x))
 have HG := hide hg
 have HS := hide hsrc
 obtain ⟨os, hos⟩ : ∃ os, xs.take (i * 1) = os := ⟨_, rfl⟩
 rw [hos] at hold hlt
 have HOS := hide (And.intro hos (And.intro hlt hold))
 have HB := hide (And.intro hbase (And.intro hbl (And.intro hgl hxl)))
 have z1 : ¬ ((1 : Int) = 0) := by omega
 have z2 : ¬ ((i : Int) = (n : Int)) := by omega
 have z3 : (cap : Int) < (n : Int) + 1 := by omega
 have i1 : (0 : Int) ≤ (i : Int) := by omega
 have i2 : (i : Int) ≤ (n : Int) := by omega
 have i3 : (i : Int) ≤ (cap : Int) := by omega
 have i9 : ¬ (cap = i) := by omega
 obtain ⟨k, hk⟩ : ∃ k : Nat, (k : Int) = (n : Int) + 1 - (i : Int) := ⟨n + 1 - i, by omega⟩
 have hk0 : 0 < k := by omega
 have hik : i + k = n + 1 := by omega
 have hk' : (n : Int) + 1 - (i : Int) = (k : Int) := hk.symm
 have HK := hide (And.intro hk0 hik)
 clear ho hv hys h1y h1x hg hsrc hbase hcs hti hm htk hold hlt hos hbl hgl hk hk0 hik hxl
 go_enter Tryz.func134, Tryz.ntmps134
 go_upto_region 10 with (first | (at_builtin; refine wpl_zerosR rfl (.tmp 34) (.tmp 39) 23 9 i0 _ 1 16 Tryz.underlying23 hi0 hz0 hz1 hz2 rfl (by omega) rfl b i cap k rfl rfl os (uh HOS).2.1 (uh HOS).2.2 (uh HK).1 (by rw [(uh HK).2]; exact hroom) (by rw [(uh HK).2]; exact hb) (by rw [(uh HK).2]; unfold maxLen; omega) ?_; rw [(uh HK).2]; intro cap' w1 zs hc1 hc2 H1))
 obtain ⟨G, hG⟩ : ∃ G, w.heap.size = G := ⟨_, rfl⟩
 simp only [hG]
 rw [hG] at H1 HB
 have HGG := hide hG
 have neG : b ≠ G := by have := (uh HB).2.1; omega
 have neV : gv ≠ G := by have := (uh HB).2.2.1; omega
 have HV1 : Hid (w1.heap[gv]? = some (.cells ys.toArray 9 (0, 0))) := hide (((uh H1).2.2.1.block gv (uh HB).2.2.1).trans (uh HV))
 have HG1 : Hid (w1.heap[b]? = some (.cells cur.toArray 9 (0, 0))) := hide (((uh H1).2.2.1.block b (uh HB).2.1).trans (uh HG))
 have HF1 : Hid (i + ys.length ≤ (os ++ zs).length) := hide (by rw [(uh H1).2.1, (uh HP).1]; omega)
 have HL : Hid ((xs.drop (i * 1)).length = (n - i) * 1) := hide (by rw [List.length_drop, (uh HB).2.2.2]; omega)
 have HF2 : Hid (i + 1 + (xs.drop (i * 1)).length ≤ (splice (os ++ zs) (i) ys).length) := hide (by rw [length_splice _ _ _ (uh HF1), (uh H1).2.1, uh HL]; omega)
 have H1c : Hid (∀ u ∈ xs.drop (i * 1), u.oneCell' = true) := hide (fun u hu => (uh HP).2.2 u (List.mem_of_mem_drop hu))
 obtain ⟨ds, hds⟩ : ∃ ds, xs.drop (i * 1) = ds := ⟨_, rfl⟩
 rw [hds] at HL HF2 H1c HS
 have HDS := hide hds
 clear hds hG
 have j1 : (i : Int) ≤ (n : Int) + 1 := by omega
 have j2 : (n : Int) + 1 ≤ (cap' : Int) := by omega
 have j3 : ¬ (cap' = i) := by omega
 have j4 : ¬ (cap' = i + 1) := by omega
 have j5 : (0 : Int) ≤ (i : Int) + 1 := by omega
 have j6 : (i : Int) + 1 ≤ (n : Int) + 1 := by omega
 have j7 : ((i : Int) + 1).toNat = i + 1 := by omega
 have j8 : cap' ≤ 9223372036854775807 := by unfold maxLen at hc2; omega
 have hw1 : IntKind.i64.wrap ((i : Int) + 1) = (i : Int) + 1 := by rw [IntKind.wrap_i64]; omega
 have tok1 : True := trivial
 go_upto_region 11 with (first | (have _t := tok1; refine wpl_copyR rfl (.tmp 43) (.tmp 44) 23 23 9 i0 1 rfl Tryz.underlying23 hi0 hz1 G (i) (n + 1 - i) (cap' - i) ⟨gv, 0, none⟩ 1 1 rfl rfl (os ++ zs) 9 (uh H1).1 ys 1 (Nat.min_eq_left (by omega)) (by rw [(uh HP).1]) (fun j u hu => World.news_of_block (uh HV1) j u (by simpa using hu)) (uh HF1) (uh HP).2.1 ?_; intro w2 H2; clear tok1))
 have HG2 : Hid (w2.heap[b]? = some (.cells cur.toArray 9 (0, 0))) := hide (((uh H2).other b neG).trans (uh HG1))
 go_region_held3 (fun _ => True)
  (exact trivial)
  ((refine step_copyR (by rfl) (.tmp 50) (.tmp 53) 23 23 9 i0 1 (by rfl) Tryz.underlying23 hi0 hz1 G (i + 1) (n - i) (cap' - (i + 1)) ⟨b, i, none⟩ (n - i) (cap - i) (by rfl) (by rfl) (splice (os ++ zs) (i) ys) 9 (uh H2).here ds (n - i) (Nat.min_eq_right (Nat.le_refl _)) (uh HL) (uh HS _ (uh HG2)) (uh HF2) (uh H1c) ?_; intro w3 H3))
 go_wp2_with fail
 go_ret
 obtain ⟨b1, hlen1, bel1, sz1⟩ := uh H1
 have hti : (os ++ zs).take (i * 1) = xs.take (i * 1) := by
  rw [List.take_append_of_le_length (by rw [(uh HOS).2.1]; exact Nat.le_refl _), List.take_of_length_le (by rw [(uh HOS).2.1]; exact Nat.le_refl _)]
  exact (uh HOS).1.symm
 obtain ⟨hs1, hs2⟩ := splice_in' (os ++ zs) xs ys 1 (n * 1) (i * 1) (uh HB).2.2.2 (uh HP).1 (by omega) (by rw [hlen1]; omega) hti
 have ep : i * 1 + 1 = i + 1 := by omega
 have eq : i * 1 = i := by omega
 have en : n * 1 + 1 = (n + 1) * 1 := by omega
 rw [uh HDS, ep, eq] at hs1 hs2
 rw [en] at hs1
 have hGG := uh HGG
 have hBB := uh HB
 refine ⟨.slice (some ⟨G, 0, none⟩) (n + 1) cap', rfl, ⟨?_, .inr ⟨G, cap', _, rfl, hBB.1, (uh H3).here, hc1, hc2, by rw [List.size_toArray, hs2, hlen1], ?_⟩⟩, ⟨⟨?_, ?_, ?_, ?_, fun k hk hne' => ?_⟩, fun c hc => .inr (by simp only [Value.ownBlock, Option.some.injEq] at hc; omega)⟩⟩
 ·simp only [List.length_append, List.length_take, List.length_drop, hBB.2.2.2, (uh HP).1]
  omega
 ·rw [List.toList_toArray, uh HDS, eq]
  exact hs1
 ·exact (uh H3).os.trans ((uh H2).os.trans bel1.os)
 ·exact (uh H3).tape.trans ((uh H2).tape.trans bel1.tape)
 ·exact (uh H3).output.trans ((uh H2).output.trans bel1.output)
 ·have h3 := (uh H3).size
  have h2 := (uh H2).size
  have h2' : w2.drew.heap.size = w2.heap.size := rfl
  omega
 ·have hk2 : k ≠ G := by omega
  rw [(uh H3).other k hk2]
  show w2.heap[k]? = _
  rw [(uh H2).other k hk2]
  exact bel1.block k (by omega)
theorem insertS (base : Nat) (v : Value) (ys xs : List Value) (n i gv : Nat) (w : World) (ho : w.ownsRow base 9 1 v n xs) (hv : w.heap[gv]? = some (.cells ys.toArray 9 (0, 0))) (hne : v.ownBlock ≠ some gv) (hys : ys.length = 1) (h1y : ∀ u ∈ ys, u.oneCell' = true) (h1x : ∀ u ∈ xs, u.oneCell' = true) (hi : i ≤ n) (hb : (n + 1) * 16 ≤ 140737488355328) (hbase : base ≤ w.heap.size) :
  Calls Tryz.prog 134 #[v, .int .i64 i, .slice (some ⟨gv, 0, none⟩) 1 1] w fun e w' => ∃ v', e = .returned v' ∧ w'.ownsRow base 9 1 v' (n + 1) (xs.take (i * 1) ++ ys ++ xs.drop (i * 1)) ∧ Grew w w' v v' := by
 by_cases hin : i = n
 ·subst hin
  rw [List.take_of_length_le (by rw [ho.1]; exact Nat.le_refl _), List.drop_of_length_le (by rw [ho.1]; exact Nat.le_refl _), List.append_nil]
  exact insEndS base v ys xs i gv w ho hv hys h1y hb hbase
 ·rcases ho.2 with ⟨rfl, hn⟩ | ⟨b, cap, cur, rfl, _⟩
  ·omega
  ·by_cases hroom : n + 1 ≤ cap
   ·exact insShiftS base ys xs n i b cap gv w ho hv (fun e => hne (by rw [e]; rfl)) hys h1y h1x (by omega) hroom
   ·exact insGrowS base ys xs n i b cap gv w ho hv hys h1y h1x (by omega) (by omega) hb hbase
end Go.Proofs.YtgkmdjmigehmeaaGreatDoor

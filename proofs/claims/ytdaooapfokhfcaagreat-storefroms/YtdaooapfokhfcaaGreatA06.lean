/-
  strings.Clone and slices.Grow of nothing, of texts and of values: the same text, an empty row with room; conditions: the form's own reach.
  The cells that a slice shows; no conditions.
  Append of bytes onto a row of the call's own, nil or not, and what stands behind it: Grow of nothing, Concat of two; conditions: the lengths together are below 2^47 and a million.
  What the two copies of slices.Insert leave in a row of cells, whatever an element's size, and copy as a step over such a row; no conditions.
-/
import Derived.Test.YtdaooapfokhfcaaGreatA05
import Derived.Lib.AppendZeros
import Derived.Lib.Strings
import Derived.Lib.BufferWrite
import Derived.Lib.UnsafeStr
import Derived.Laws.MakeOwn
import Derived.WalkKit
import Derived.Test.YtdaooapfokhfcaaGreatA04
import Derived.Deep.AppendLies
import Derived.Laws.AppendOwnNone
import Derived.Lib.AppendZerosOnto
import Derived.Lib.Overlaps
import Derived.Laws.CopyOwn
import Derived.Maps.AppendAt
namespace Go.Proofs.YtdaooapfokhfcaaGreat
open Go.RowKit
set_option linter.unusedVariables false
set_option linter.unusedSimpArgs false

theorem infoBc : (Tryz.prog.info? 5).map (fun i => (i.zero, i.size, i.bytes)) = some (some (.int .u8 0), 1, 1) := by kernel_rfl
theorem infoSc : (Tryz.prog.info? 9).map (fun i => (i.zero, i.size, i.bytes)) = some (some (.string ⟨#[]⟩), 1, 16) := by kernel_rfl
theorem infoVc : (Tryz.prog.info? 32).map (fun i => (i.zero, i.size, i.bytes)) = some (some (.agg #[.int .i64 0, .int .i64 0, .string ⟨#[]⟩, .slice none 0 0, .slice none 0 0]), 5, 80) := by kernel_rfl

set_option maxRecDepth 100000 in
set_option maxHeartbeats 1000000 in
theorem lite_clone (s : ByteArray) (w : World) (hs : s.size ≤ 140737488351232) :
    Calls Tryz.prog 76 #[.string s] w fun e w' => e = .returned (.string s) ∧ Below w.heap.size w w' := by
  by_cases h0 : s.size = 0
  · obtain rfl : s = ⟨#[]⟩ := ByteArray.ext (Array.eq_empty_of_size_eq_zero h0)
    go_enter Tryz.func76, Tryz.ntmps76
    go_wp2_with fail
    go_ret
    exact ⟨rfl, Below.refl _ _⟩
  · obtain ⟨i0, hi, hz0, hz1, hz2⟩ := info_parts infoBc
    have hco : Tryz.prog.cellsOf 5 = 1 := by simp [Program.cellsOf, hi, hz1]
    have hinfo : (Tryz.prog.info? 5).map (·.size) = some 1 := by rw [hi]; simp [hz1]
    obtain ⟨M, hM⟩ : ∃ M, M = madeCells (Value.int .u8 0).cells (((s.size : Nat) : Int).toNat * i0.size) := ⟨_, rfl⟩
    have hMs : M.size = s.size := by rw [hM, size_madeCells, hz1]; simp
    have hmk : ∀ W : World, (Instr.makeSlice 115 (.int .i64 (s.size : Int)) (.int .i64 (s.size : Int))).run Tryz.prog W = .ok (.slice (some ⟨W.heap.size, 0, none⟩) s.size s.size) (W.alloc (.cells M 5)) := fun W => by
      have h := run_make (P := Tryz.prog) W 115 5 i0 (.int .u8 0) Tryz.underlying115 hi hz0 .i64 .i64 (s.size : Int) (s.size : Int) (by omega) (by omega) (by rw [hz2]; omega) (by omega)
      rw [← hM] at h
      simpa using h
    clear hM
    have hcp := Lib.run_copy_row_string (P := Tryz.prog) (w.alloc (.cells M 5)) 115 9 3 5 w.heap.size 0 s.size s.size s M 5 Tryz.underlying115 hinfo (heap_alloc_new w _) (Nat.le_refl _) (by omega)
    obtain ⟨Y, hY⟩ : ∃ Y, Y = (M.toList.take 0 ++ Lib.byteCells s.data.toList ++ M.toList.drop (0 + s.size)).toArray := ⟨_, rfl⟩
    rw [← hY] at hcp
    have hYl : Y.toList = Lib.byteCells s.data.toList := by
      rw [hY, List.toList_toArray, List.take_zero, List.nil_append, List.drop_of_length_le (by rw [Array.length_toList]; omega), List.append_nil]
    have hYs : Y.size = s.size := by rw [← Array.length_toList, hYl, Lib.byteCells_length, ← Lib.size_eq]
    have hgY : ((w.alloc (.cells M 5)).setRow w.heap.size Y).heap[w.heap.size]? = some (.cells Y 5 (0, 0)) := setRow_heap _ _ M _ 5 (0, 0) (heap_alloc_new w _)
    have hne : s.data.toList ≠ [] := fun e => h0 (by rw [Lib.size_eq, e]; rfl)
    have hUS := Lib.run_unsafeString_row (P := Tryz.prog) ((w.alloc (.cells M 5)).setRow w.heap.size Y) 116 3 9 5 Tryz.underlying116 hco w.heap.size Y.size (by unfold World.shape?; rw [hgY]) s.data.toList hne (by rw [← Lib.size_eq]; omega) (by rw [← Lib.size_eq]; omega)
      (fun j x hx => Lib.cells_of_row hgY Y.size j _ (by rw [List.take_of_length_le (by rw [Array.length_toList]; exact Nat.le_refl _), hYl]; simp [Lib.byteCells, hx]))
    rw [← Lib.size_eq] at hUS
    clear hY
    go_enter Tryz.func76, Tryz.ntmps76
    go_wp2_with fail
    go_ret
    have hb1 : Below w.heap.size w (w.alloc (.cells M 5)) := (Below.refl _ w).alloc (Nat.le_refl _) _
    have hb2 : Below w.heap.size (w.alloc (.cells M 5)) ((w.alloc (.cells M 5)).setRow w.heap.size Y) := ⟨rfl, rfl, rfl, by simp, fun k hk => setRow_other _ _ _ _ (by omega)⟩
    exact ⟨rfl, Lib.below_freeze (hb1.trans hb2) (p := ⟨w.heap.size, 0, none⟩) (Nat.le_refl _) _⟩

set_option maxRecDepth 100000 in
theorem str_clone (s : ByteArray) (w : World) (hs : s.size ≤ 140737488351232) :
    Calls Tryz.prog 45 #[.string s] w fun e w' => e = .returned (.string s) ∧ Below w.heap.size w w' := by
  go_enter Tryz.func45, Tryz.ntmps45
  go_wp2_with fail
  refine (lite_clone s w hs).mono ?_
  rintro e u ⟨rfl, b⟩
  go_wp2_with fail
  go_ret
  exact ⟨rfl, b⟩

set_option maxRecDepth 100000 in
/-- append(nothing, make([]T, n)...) -/
theorem wpl_zerosG {w : World} {ops : Array Oper} {rest : List Oper} {o : Oper} {a : Act} {Q : Exit → Act → World → Prop} (t e : TypeId) (i : TypeInfo) (z : Value) (size bytes : Nat) (ht : Tryz.prog.underlying t = some (.slice e)) (hi : Tryz.prog.info? e = some i) (hz0 : i.zero = some z) (hz1 : i.size = size) (hz2 : i.bytes = bytes) (hzc : z.cells.size = size) (hsz : 0 < size) (hgd : o.guard = none) (sl x : Operand)
    (ho : o.op = .call { callee := .builtin .append, args := #[sl, x], argTypes := #[t, 3] })
    (n : Nat) (hs : a.eval sl = .slice none 0 0) (hx : a.eval x = .int .i64 (n : Int)) (hn : 0 < n) (hb : n * bytes ≤ 281474976710656) (hm : n ≤ 140737488351232)
    (h : ∀ cap w', n ≤ cap → cap ≤ maxLen → Hid (w'.ownsRow w.heap.size e size (.slice (some ⟨w.heap.size, 0, none⟩) 0 cap) 0 [] ∧ Below w.heap.size w w') → wpList Tryz.prog ops Q rest (a.put o.dst (.slice (some ⟨w.heap.size, 0, none⟩) n cap)) w') :
    wpList Tryz.prog ops Q (o :: rest) a w := by
  refine wpList_plain hgd fun K hK => ?_
  have hrun := Lib.run_append_nil_zeros (P := Tryz.prog) w t 3 o.type e i z .i64 .i64 ht Tryz.underlying3 hi hz0 n hn (by omega) (by omega) (by rw [hz2]; exact hb)
  unfold Oper.wp
  simp only [execOp, ho, resolve, invoke, builtin, Sem.run_bind, Sem.run_pure, Result.andThen_ok, List.map_toArray, List.map_cons, List.map_nil, hs, hx, hrun]
  have hge := grownCap_ge w n 0 e
  have hle := grownCap_le_maxLen w n 0 e (by unfold maxLen; omega)
  refine hK _ _ (h _ _ hge hle ⟨?_, ((Below.refl _ _).drew).alloc (Nat.le_refl _) _⟩)
  refine World.ownsRow_made (base := w.heap.size) w.drew _ _ (Nat.le_refl _) hle ?_
  rw [Array.size_append, size_zeroCells, size_zeroCells, hzc, ← Nat.add_mul]
  congr 1
  omega

set_option maxRecDepth 100000 in
set_option maxHeartbeats 400000 in
theorem growS (n : Nat) (w : World) (hn : 16 * n ≤ 140737488351232) :
    Calls Tryz.prog 100 #[.slice none 0 0, .int .i64 (n : Int)] w fun e w' => ∃ sv, e = .returned sv ∧ Below w.heap.size w w' ∧ (sv = .slice none 0 0 ∨ ((∃ cap, sv = .slice (some ⟨w.heap.size, 0, none⟩) 0 cap) ∧ w'.ownsRow w.heap.size 9 1 sv 0 [])) := by
  by_cases h0 : n = 0
  · subst h0
    go_enter Tryz.func100, Tryz.ntmps100
    go_wp2_with fail
    go_ret
    exact ⟨.slice none 0 0, rfl, Below.refl _ _, Or.inl rfl⟩
  · have n0 : (0 : Int) < (n : Int) := by omega
    have n0' : 0 < n := by omega
    have n1 : ¬ (n : Int) < 0 := by omega
    obtain ⟨i0, hi, hz0, hz1, hz2⟩ := info_parts infoSc
    have HI := hide (And.intro hi (And.intro hz0 (And.intro hz1 hz2)))
    clear hi hz0 hz1 hz2
    go_enter Tryz.func100, Tryz.ntmps100
    go_wp2_with (first | (at_builtin; refine wpl_zerosG 30 9 i0 (.string ⟨#[]⟩) 1 16 Tryz.underlying30 (unhide HI).1 (unhide HI).2.1 (unhide HI).2.2.1 (unhide HI).2.2.2 rfl (by omega) rfl (.tmp 20) (.tmp 21) rfl n rfl rfl n0' (by omega) (by omega) ?_; intro cap w1 hc1 hc2 H1; have c1 : (0 : Int) ≤ (cap : Int) := by omega))
    go_ret
    exact ⟨.slice (some ⟨w.heap.size, 0, none⟩) 0 cap, rfl, (unhide H1).2, Or.inr ⟨⟨cap, rfl⟩, (unhide H1).1⟩⟩

set_option maxRecDepth 100000 in
set_option maxHeartbeats 400000 in
theorem growV (n : Nat) (w : World) (hn : n ≤ 5000) :
    Calls Tryz.prog 101 #[.slice none 0 0, .int .i64 (n : Int)] w fun e w' => ∃ sv, e = .returned sv ∧ Below w.heap.size w w' ∧ (sv = .slice none 0 0 ∨ ((∃ cap, sv = .slice (some ⟨w.heap.size, 0, none⟩) 0 cap) ∧ w'.ownsRow w.heap.size 32 5 sv 0 [])) := by
  by_cases h0 : n = 0
  · subst h0
    go_enter Tryz.func101, Tryz.ntmps101
    go_wp2_with fail
    go_ret
    exact ⟨.slice none 0 0, rfl, Below.refl _ _, Or.inl rfl⟩
  · have n0 : (0 : Int) < (n : Int) := by omega
    have n0' : 0 < n := by omega
    have n1 : ¬ (n : Int) < 0 := by omega
    obtain ⟨i0, hi, hz0, hz1, hz2⟩ := info_parts infoVc
    have HI := hide (And.intro hi (And.intro hz0 (And.intro hz1 hz2)))
    clear hi hz0 hz1 hz2
    go_enter Tryz.func101, Tryz.ntmps101
    go_wp2_with (first | (at_builtin; refine wpl_zerosG 29 32 i0 (.agg #[.int .i64 0, .int .i64 0, .string ⟨#[]⟩, .slice none 0 0, .slice none 0 0]) 5 80 Tryz.underlying29 (unhide HI).1 (unhide HI).2.1 (unhide HI).2.2.1 (unhide HI).2.2.2 rfl (by omega) rfl (.tmp 20) (.tmp 21) rfl n rfl rfl n0' (by omega) (by omega) ?_; intro cap w1 hc1 hc2 H1; have c1 : (0 : Int) ≤ (cap : Int) := by omega))
    go_ret
    exact ⟨.slice (some ⟨w.heap.size, 0, none⟩) 0 cap, rfl, (unhide H1).2, Or.inr ⟨⟨cap, rfl⟩, (unhide H1).1⟩⟩
end Go.Proofs.YtdaooapfokhfcaaGreat

namespace Go.Proofs.YtdaooapfokhfcaaGreat
open Go.RowKit
set_option linter.unusedVariables false
set_option linter.unusedSimpArgs false

/-- the cells that a slice shows -/
structure Shows (w : World) (ao : Option Addr) (len cap size : Nat) (xs : List Value) : Prop where
  length : xs.length = len * size
  none : ao = none → len = 0 ∧ cap = 0
  cells : ∀ a, ao = some a → ∀ j u, xs[j]? = some u → w.cell? (a.add j) = some u
  one : ∀ u ∈ xs, u.oneCell' = true

theorem made0 (w : World) (e : TypeId) (size : Nat) : (w.alloc (.cells #[] e)).ownsRow w.heap.size e size (.slice (some ⟨w.heap.size, 0, none⟩) 0 0) 0 [] :=
  World.ownsRow_made (base := w.heap.size) w #[] 0 (Nat.le_refl _) (Nat.zero_le _) (by simp)

end Go.Proofs.YtdaooapfokhfcaaGreat

namespace Go.Proofs.YtdaooapfokhfcaaGreat
open Go.RowKit

/-- the world behind something that has grown a row -/
structure Grew (w w' : World) (v v' : Value) : Prop where
  grown : w.grownBy w' v.ownBlock
  row : ∀ b, v'.ownBlock = some b → v.ownBlock = some b ∨ w.heap.size ≤ b

theorem Grew.refl (w : World) (v : Value) : Grew w w v v := ⟨World.grownBy.refl _ _, fun _ h => Or.inl h⟩

theorem Grew.trans {w w1 w2 : World} {v v1 v2 : Value} (h : Grew w w1 v v1) (h2 : Grew w1 w2 v1 v2) : Grew w w2 v v2 := by
  have hs := h.grown.size
  refine ⟨⟨h2.grown.os.trans h.grown.os, h2.grown.tape.trans h.grown.tape, h2.grown.output.trans h.grown.output, Nat.le_trans h.grown.size h2.grown.size, fun k hk hn => ?_⟩, fun b hb => ?_⟩
  · rw [h2.grown.block k (by omega) (fun e => ?_), h.grown.block k hk hn]
    rcases h.row k e.symm with h' | h'
    · exact hn h'.symm
    · omega
  · rcases h2.row b hb with h' | h'
    · rcases h.row b h' with h' | h'
      · exact Or.inl h'
      · exact Or.inr h'
    · exact Or.inr (by omega)

theorem Grew.behind {w w1 w2 : World} {v v2 : Value} (hb : Below w.heap.size w w1) (h : Grew w1 w2 v v2) : Grew w w2 v v2 := by
  have hs := hb.size
  refine ⟨⟨h.grown.os.trans hb.os, h.grown.tape.trans hb.tape, h.grown.output.trans hb.output, Nat.le_trans hb.size h.grown.size, fun k hk hn => ?_⟩, fun b e => ?_⟩
  · rw [h.grown.block k (by omega) hn, hb.block k hk]
  · rcases h.row b e with h' | h'
    · exact Or.inl h'
    · exact Or.inr (by omega)

theorem Grew.ahead {w w1 w2 : World} {v v1 : Value} (h : Grew w w1 v v1) (hb : Below w1.heap.size w1 w2) : Grew w w2 v v1 := by
  have hs := h.grown.size
  refine ⟨⟨hb.os.trans h.grown.os, hb.tape.trans h.grown.tape, hb.output.trans h.grown.output, Nat.le_trans h.grown.size hb.size, fun k hk hn => ?_⟩, h.row⟩
  rw [hb.block k (by omega), h.grown.block k hk hn]

theorem Grew.below {w w' : World} {v v' : Value} {base : Nat} {n : Nat} {xs : List Value} (h : Grew w w' v v') (ho : w.ownsRow base 5 1 v n xs) (hb : base ≤ w.heap.size) : Below base w w' :=
  (Below.refl _ _).grown h.grown hb (fun k e => (ho.lt k e).1)

theorem Grew.far {w w' : World} {v v' : Value} (h : Grew w w' v v') {b : Nat} (hb : b < w.heap.size) (hn : some b ≠ v.ownBlock) : w'.heap[b]? = w.heap[b]? := h.grown.block b hb hn

theorem own_below {w w' : World} {base : Nat} {e : TypeId} {size : Nat} {v : Value} {n : Nat} {xs : List Value} (h : w.ownsRow base e size v n xs) (hb : Below w.heap.size w w') : w'.ownsRow base e size v n xs := by
  refine ⟨h.1, ?_⟩
  rcases h.2 with hn | ⟨g, cap, cur, rfl, hbs, hg, rest⟩
  · exact .inl hn
  · exact .inr ⟨g, cap, cur, rfl, hbs, (hb.block g (Array.getElem?_eq_some_iff.1 hg).1).trans hg, rest⟩
end Go.Proofs.YtdaooapfokhfcaaGreat

namespace Go.Proofs.YtdaooapfokhfcaaGreat
open Go.RowKit
set_option linter.unusedVariables false
set_option linter.unusedSimpArgs false

/-- first the rest behind, then what comes in -/
theorem splice_in (cur xs ys : List Value) (σ N I : Nat) (hx : xs.length = N) (hy : ys.length = σ) (hi : I ≤ N) (hc : N + σ ≤ cur.length) (ht : cur.take I = xs.take I) :
    (splice (splice cur (I + σ) (xs.drop I)) I ys).take (N + σ) = xs.take I ++ ys ++ xs.drop I ∧ (splice (splice cur (I + σ) (xs.drop I)) I ys).length = cur.length := by
  have hd : (xs.drop I).length = N - I := by rw [List.length_drop, hx]
  have h1 : (splice cur (I + σ) (xs.drop I)).length = cur.length := length_splice _ _ _ (by rw [hd]; omega)
  refine ⟨?_, by rw [length_splice _ _ _ (by rw [h1, hy]; omega), h1]⟩
  have e1 : (splice cur (I + σ) (xs.drop I)).take I = xs.take I := by
    unfold splice
    rw [List.take_append_of_le_length (by rw [List.length_take]; omega), List.take_take, Nat.min_eq_left (by omega), ht]
  have e2 : (splice cur (I + σ) (xs.drop I)).drop (I + ys.length) = xs.drop I ++ cur.drop (I + σ + (xs.drop I).length) := by
    unfold splice
    have : I + ys.length = (cur.take (I + σ)).length := by rw [List.length_take, Nat.min_eq_left (by omega), hy]
    rw [this, List.drop_left]
  have hl : (xs.take I ++ ys ++ xs.drop I).length = N + σ := by
    simp only [List.length_append, List.length_take, hd, hx, hy]
    omega
  have e3 : splice (splice cur (I + σ) (xs.drop I)) I ys = (xs.take I ++ ys ++ xs.drop I) ++ cur.drop (I + σ + (xs.drop I).length) := by
    rw [splice, e1, e2]
    simp
  rw [e3, ← hl, List.take_left]

/-- the other way round -/
theorem splice_in' (cur xs ys : List Value) (σ N I : Nat) (hx : xs.length = N) (hy : ys.length = σ) (hi : I ≤ N) (hc : N + σ ≤ cur.length) (ht : cur.take I = xs.take I) :
    (splice (splice cur I ys) (I + σ) (xs.drop I)).take (N + σ) = xs.take I ++ ys ++ xs.drop I ∧ (splice (splice cur I ys) (I + σ) (xs.drop I)).length = cur.length := by
  have hd : (xs.drop I).length = N - I := by rw [List.length_drop, hx]
  have h1 : (splice cur I ys).length = cur.length := length_splice _ _ _ (by rw [hy]; omega)
  refine ⟨?_, by rw [length_splice _ _ _ (by rw [h1, hd]; omega), h1]⟩
  have e1 : (splice cur I ys).take (I + σ) = xs.take I ++ ys := by
    unfold splice
    rw [ht, ← List.append_assoc]
    have : I + σ = (xs.take I ++ ys).length := by rw [List.length_append, List.length_take, hx, hy, Nat.min_eq_left hi]
    rw [this, List.take_left]
  have hl : (xs.take I ++ ys ++ xs.drop I).length = N + σ := by
    simp only [List.length_append, List.length_take, hd, hx, hy]
    omega
  have e3 : splice (splice cur I ys) (I + σ) (xs.drop I) = (xs.take I ++ ys ++ xs.drop I) ++ (splice cur I ys).drop (I + σ + (xs.drop I).length) := by
    conv => lhs; unfold splice
    rw [show (List.take I cur ++ (ys ++ List.drop (I + ys.length) cur)) = splice cur I ys from rfl, e1]
    simp
  rw [e3, ← hl, List.take_left]

/-- one block of cells is another row, all else is as it was -/
structure LaidR (w w' : World) (g : Nat) (cs : List Value) (t : TypeId) : Prop where
  here : w'.heap[g]? = some (.cells cs.toArray t (0, 0))
  os : w'.os = w.os
  tape : w'.tape = w.tape
  output : w'.output = w.output
  size : w'.heap.size = w.heap.size
  other : ∀ k, k ≠ g → w'.heap[k]? = w.heap[k]?

theorem laidR_set {w : World} {g : Nat} {cur : Array Value} {t : TypeId} (hg : w.heap[g]? = some (.cells cur t (0, 0))) (cs : List Value) : LaidR w (w.setRow g cs.toArray) g cs t :=
  ⟨setRow_heap w g cur _ t _ hg, rfl, rfl, rfl, by simp [World.setRow], fun k hk => setRow_other w g k _ hk⟩

theorem run_copyR (w : World) (dT sT ty elem : TypeId) (i0 : TypeInfo) (σ g o dLen dCap : Nat) (a : Addr) (sLen sCap : Nat) (cur : List Value) (t : TypeId) (cs : List Value)
    (hu : Tryz.prog.underlying dT = some (.slice elem)) (hi : Tryz.prog.info? elem = some i0) (hs : i0.size = σ)
    (hg : w.heap[g]? = some (.cells cur.toArray t (0, 0))) (n : Nat) (hn : Nat.min sLen dLen = n) (hcs : cs.length = n * σ)
    (hsrc : ∀ j v, cs[j]? = some v → w.cell? (a.add j) = some v) (hfit : o + cs.length ≤ cur.length) (h1 : ∀ v ∈ cs, v.oneCell' = true) :
    (Builtin.copy_ #[dT, sT] ty #[.slice (some ⟨g, o, none⟩) dLen dCap, .slice (some a) sLen sCap]).run Tryz.prog w =
      .ok (goInt n) (w.setRow g (splice cur o cs).toArray) := by
  have hl := run_loadCells_list (P := Tryz.prog) w a cs hsrc
  have hst := run_storeCells_at Tryz.prog g o t cs 0 cur.toArray w hg (by simpa using hfit) h1
  rw [hcs] at hl
  simp [Builtin.copy_, run_underlying hu, Builtin.lenOf, Builtin.firstCells, sizeOf, typeInfo, hi, hs, hn, hl, hst, splice]

/-- copy, at a plain region's list -/
theorem wpl_copyR {w : World} {ops : Array Oper} {rest : List Oper} {o : Oper} {a : Act} {Q : Exit → Act → World → Prop} (hgd : o.guard = none) (d s : Operand) (dT sT elem : TypeId) (i0 : TypeInfo) (σ : Nat)
    (ho : o.op = .call { callee := .builtin .copy, args := #[d, s], argTypes := #[dT, sT] }) (hu : Tryz.prog.underlying dT = some (.slice elem)) (hi : Tryz.prog.info? elem = some i0) (hs2 : i0.size = σ)
    (g off dLen dCap : Nat) (ad : Addr) (sLen sCap : Nat) (hd : a.eval d = .slice (some ⟨g, off, none⟩) dLen dCap) (hs : a.eval s = .slice (some ad) sLen sCap)
    (cur : List Value) (t : TypeId) (hg : w.heap[g]? = some (.cells cur.toArray t (0, 0))) (cs : List Value) (n : Nat) (hn : Nat.min sLen dLen = n) (hcs : cs.length = n * σ)
    (hsrc : ∀ j v, cs[j]? = some v → w.cell? (ad.add j) = some v) (hfit : off + cs.length ≤ cur.length) (h1 : ∀ v ∈ cs, v.oneCell' = true)
    (h : ∀ w', Hid (LaidR w w' g (splice cur off cs) t) → wpList Tryz.prog ops Q rest (a.put o.dst (goInt n)) w') : wpList Tryz.prog ops Q (o :: rest) a w := by
  refine wpList_plain hgd fun K hK => ?_
  have hrun := run_copyR w dT sT o.type elem i0 σ g off dLen dCap ad sLen sCap cur t cs hu hi hs2 hg n hn hcs hsrc hfit h1
  unfold Oper.wp
  simp only [execOp, ho, resolve, invoke, builtin, Sem.run_bind, Sem.run_pure, Result.andThen_ok, List.map_toArray, List.map_cons, List.map_nil, hd, hs, hrun]
  exact hK _ _ (h _ (laidR_set hg _))

/-- copy, at a step of a region that draws -/
theorem step_copyR {w : World} {ops : Array Oper} {o : Oper} {a : Act} {K : Act → World → Prop} {Q : Exit → Act → World → Prop} {E : Prop} (hgd : o.guard = none) (d s : Operand) (dT sT elem : TypeId) (i0 : TypeInfo) (σ : Nat)
    (ho : o.op = .call { callee := .builtin .copy, args := #[d, s], argTypes := #[dT, sT] }) (hu : Tryz.prog.underlying dT = some (.slice elem)) (hi : Tryz.prog.info? elem = some i0) (hs2 : i0.size = σ)
    (g off dLen dCap : Nat) (ad : Addr) (sLen sCap : Nat) (hd : a.eval d = .slice (some ⟨g, off, none⟩) dLen dCap) (hs : a.eval s = .slice (some ad) sLen sCap)
    (cur : List Value) (t : TypeId) (hg : w.heap[g]? = some (.cells cur.toArray t (0, 0))) (cs : List Value) (n : Nat) (hn : Nat.min sLen dLen = n) (hcs : cs.length = n * σ)
    (hsrc : ∀ j v, cs[j]? = some v → w.cell? (ad.add j) = some v) (hfit : off + cs.length ≤ cur.length) (h1 : ∀ v ∈ cs, v.oneCell' = true)
    (h : ∀ w', Hid (LaidR w w' g (splice cur off cs) t) → K (a.put o.dst (goInt n)) w') :
    if Region.wanted o (yielded ops a.tmps) = true then Oper.wp Tryz.prog o a w K Q else E := by
  rw [if_pos (show Region.wanted o (yielded ops a.tmps) = true by simp [Region.wanted, hgd])]
  have hrun := run_copyR w dT sT o.type elem i0 σ g off dLen dCap ad sLen sCap cur t cs hu hi hs2 hg n hn hcs hsrc hfit h1
  unfold Oper.wp
  simp only [execOp, ho, resolve, invoke, builtin, Sem.run_bind, Sem.run_pure, Result.andThen_ok, List.map_toArray, List.map_cons, List.map_nil, hd, hs, hrun]
  exact h _ (laidR_set hg _)

set_option maxRecDepth 100000 in
/-- append of one more onto a row of the call's own -/
theorem wpl_appR {w : World} {ops : Array Oper} {rest : List Oper} {o : Oper} {a : Act} {Q : Exit → Act → World → Prop} (hgd : o.guard = none) (sl x : Operand) (tS e : TypeId) (i0 : TypeInfo) (z : Value) (σ bytes : Nat)
    (hS : Tryz.prog.underlying tS = some (.slice e)) (hi : Tryz.prog.info? e = some i0) (hz0 : i0.zero = some z) (hz1 : i0.size = σ) (hz2 : i0.bytes = bytes) (hzc : z.cells.size = σ) (hsz : 0 < σ)
    (ho : o.op = .call { callee := .builtin .append, args := #[sl, x], argTypes := #[tS, tS] })
    (base n : Nat) (v : Value) (xs : List Value) (hs : a.eval sl = v) (hown : w.ownsRow base e σ v n xs) (gv : Nat) (ys : List Value) (hx : a.eval x = .slice (some ⟨gv, 0, none⟩) 1 1) (hv : w.heap[gv]? = some (.cells ys.toArray e (0, 0))) (hys : ys.length = σ) (h1 : ∀ u ∈ ys, u.oneCell' = true)
    (h63 : n + 1 ≤ maxLen) (hb : (n + 1) * bytes ≤ 140737488355328) (hbase : base ≤ w.heap.size)
    (h : ∀ v' w', Hid (w'.ownsRow base e σ v' (n + 1) (xs ++ ys) ∧ Grew w w' v v') → wpList Tryz.prog ops Q rest (a.put o.dst v') w') : wpList Tryz.prog ops Q (o :: rest) a w := by
  refine wpList_plain hgd fun K hK => ?_
  obtain ⟨v', w', hrun, h2, h3, _, h5⟩ := run_append_own_at (P := Tryz.prog) w base tS o.type e i0 z σ bytes hS hi hz0 hz1 hz2 hzc hsz v n xs hown ⟨gv, 0, none⟩ 1 1 ys (by omega) (fun j u hu => World.news_of_block hv j u (by simpa using hu)) h1 h63 hb hbase
  unfold Oper.wp
  simp only [execOp, ho, resolve, invoke, builtin, Sem.run_bind, Sem.run_pure, Result.andThen_ok, List.map_toArray, List.map_cons, List.map_nil, hs, hx, hrun]
  refine hK _ _ (h v' w' ⟨h2, h3, fun b hb => ?_⟩)
  rcases h5 with e | e
  · exact Or.inl (by rw [← e]; exact hb)
  · rw [hb] at e
    exact Or.inr (by rw [Option.some.inj e]; exact Nat.le_refl _)

set_option maxRecDepth 100000 in
/-- append of so many zero values, where there is no room for them: a new row -/
theorem wpl_zerosR {w : World} {ops : Array Oper} {rest : List Oper} {o : Oper} {a : Act} {Q : Exit → Act → World → Prop} (hgd : o.guard = none) (sl x : Operand) (tS E : TypeId) (i0 : TypeInfo) (z : Value) (σ bytes : Nat)
    (hS : Tryz.prog.underlying tS = some (.slice E)) (hi : Tryz.prog.info? E = some i0) (hz0 : i0.zero = some z) (hz1 : i0.size = σ) (hz2 : i0.bytes = bytes) (hzc : z.cells.size = σ) (hsz : 0 < σ)
    (ho : o.op = .call { callee := .builtin .append, args := #[sl, x], argTypes := #[tS, 3] })
    (b len cap k : Nat) (hs : a.eval sl = .slice (some ⟨b, 0, none⟩) len cap) (hx : a.eval x = .int .i64 (k : Int)) (olds : List Value) (hol : olds.length = len * σ) (hold : ∀ j v, olds[j]? = some v → w.cell? ((⟨b, 0, none⟩ : Addr).add j) = some v)
    (hk : 0 < k) (hg : cap < len + k) (hb : (len + k) * bytes ≤ 140737488355328) (h63 : len + k ≤ maxLen)
    (h : ∀ cap' w' (zs : List Value), len + k ≤ cap' → cap' ≤ maxLen → Hid (w'.heap[w.heap.size]? = some (.cells (olds ++ zs).toArray E (0, 0)) ∧ (olds ++ zs).length = cap' * σ ∧ Below w.heap.size w w' ∧ w'.heap.size = w.heap.size + 1) → wpList Tryz.prog ops Q rest (a.put o.dst (.slice (some ⟨w.heap.size, 0, none⟩) (len + k) cap')) w') :
    wpList Tryz.prog ops Q (o :: rest) a w := by
  refine wpList_plain hgd fun K hK => ?_
  have hf : (Builtin.firstCells i0.size len (.slice (some ⟨b, 0, none⟩) len cap)).run Tryz.prog w.drew = .ok olds.toArray w.drew := run_firstCells_some (P := Tryz.prog) (w := w.drew) i0.size len ⟨b, 0, none⟩ len cap olds (by rw [hz1]; exact hol) hold
  have hkb : k * i0.bytes ≤ 281474976710656 := by
    rw [hz2]
    have : k * bytes ≤ (len + k) * bytes := Nat.mul_le_mul_right _ (by omega)
    omega
  have hrun := Lib.run_append_grow_zeros (P := Tryz.prog) w tS 3 o.type E i0 z .i64 .i64 hS Tryz.underlying3 hi hz0 (some ⟨b, 0, none⟩) len cap olds hf k hk (by omega) hg (by unfold maxLen at h63; omega) hkb (growslice_fits hg (by rw [hz2]; exact hb))
  unfold Oper.wp
  simp only [execOp, ho, resolve, invoke, builtin, Sem.run_bind, Sem.run_pure, Result.andThen_ok, List.map_toArray, List.map_cons, List.map_nil, hs, hx, hrun]
  have hge := grownCap_ge w (len + k) cap E
  have hle := grownCap_le_maxLen w (len + k) cap E h63
  refine hK _ _ (h _ _ ((Builtin.zeroCells z.cells k).toList ++ (Builtin.zeroCells z.cells (grownCap w (len + k) cap E - (len + k))).toList) hge hle ⟨?_, ?_, ?_, ?_⟩)
  · have := heap_alloc_new w.drew (.cells (olds.toArray ++ Builtin.zeroCells z.cells k ++ Builtin.zeroCells z.cells (grownCap w (len + k) cap E - (len + k))) E)
    rw [show (olds ++ ((Builtin.zeroCells z.cells k).toList ++ (Builtin.zeroCells z.cells (grownCap w (len + k) cap E - (len + k))).toList)).toArray = olds.toArray ++ Builtin.zeroCells z.cells k ++ Builtin.zeroCells z.cells (grownCap w (len + k) cap E - (len + k)) by simp]
    exact this
  · have e1 : (Builtin.zeroCells z.cells k).toList.length = k * σ := by rw [Array.length_toList, size_zeroCells, hzc]
    have e2 : (Builtin.zeroCells z.cells (grownCap w (len + k) cap E - (len + k))).toList.length = (grownCap w (len + k) cap E - (len + k)) * σ := by rw [Array.length_toList, size_zeroCells, hzc]
    rw [List.length_append, List.length_append, e1, e2, hol, ← Nat.add_mul, ← Nat.add_mul]
    have e3 : len + (k + (grownCap w (len + k) cap E - (len + k))) = grownCap w (len + k) cap E := by omega
    rw [e3]
  · exact ((Below.refl _ _).drew).alloc (Nat.le_refl _) _
  · simp

theorem add_offR (b o j : Nat) : (⟨b, o, none⟩ : Addr).add j = ⟨b, o + j, none⟩ := by
  unfold Addr.add
  split
  · simp_all
  · simp
end Go.Proofs.YtdaooapfokhfcaaGreat

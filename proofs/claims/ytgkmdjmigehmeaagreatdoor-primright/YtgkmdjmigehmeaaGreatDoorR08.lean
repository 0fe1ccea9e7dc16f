/-
  The walks of alike and same: are two values the same, field by field? no conditions but the form's own reach.
-/
import Derived.Test.YtgkmdjmigehmeaaGreatDoorR05
import Derived.Deep.RegionHeld3
import Derived.Deep.QuietTactic
import Derived.BigQuiet
import Derived.Deep.AppendLies
import Derived.Maps.AppendAt
import Derived.Lib.AppendZeros
import Derived.Laws.AppendOwnNone
namespace Go.Proofs.YtgkmdjmigehmeaaGreatDoor
set_option linter.unusedVariables false
set_option linter.unusedSimpArgs false
set_option maxRecDepth 100000
set_option maxHeartbeats 16000000
open Go.RowKit
theorem sameL_next : ∀ (l l' : List Vl) (i : Nat) (x y : Vl), l[i]? = some x → l'[i]? = some y → sameL (l.take (i + 1)) (l'.take (i + 1)) = (sameL (l.take i) (l'.take i) && sameB x y)
 | [], _, i, x, y, h, _ => by simp at h
 | _ :: _, [], i, x, y, _, h => by simp at h
 | a :: l, b :: l', 0, x, y, h, h' => by
  simp at h h'
  subst h
  subst h'
  simp [sameL_cons, sameL_nil]
 | a :: l, b :: l', i + 1, x, y, h, h' => by
  have ih := sameL_next l l' i x y (by simpa using h) (by simpa using h')
  rw [List.take_succ_cons, List.take_succ_cons, List.take_succ_cons, List.take_succ_cons, sameL_cons, sameL_cons, ih, Bool.and_assoc]
theorem sameL_no (l l' : List Vl) (i : Nat) (x y : Vl) (h : l[i]? = some x) (h' : l'[i]? = some y) (hl : l.length = l'.length) (hs : sameB x y = false) : sameL l l' = false := by
 cases hc : sameL l l' with
 | false => rfl
 | true =>
  have e := (sameL_iff l l' hl).1 hc
  rw [e, h'] at h
  have := (sameB_iff x y).2 (Option.some.inj h).symm
  rw [hs] at this
  cases this
theorem take_next {α : Type} (ks ks' : List α) (i : Nat) (t : α) (h : ks[i]? = some t) (h' : ks'[i]? = some t) (he : ks.take i = ks'.take i) : ks.take (i + 1) = ks'.take (i + 1) := by
 obtain ⟨h1, e1⟩ := List.getElem?_eq_some_iff.1 h
 obtain ⟨h2, e2⟩ := List.getElem?_eq_some_iff.1 h'
 rw [List.take_succ_eq_append_getElem h1, List.take_succ_eq_append_getElem h2, he, e1, e2]
theorem below_drewN {B : Nat} {a w : World} (h : Below B a w) (q : Nat) : Below B a (w.drewN q) := ⟨h.os, h.tape, h.output, h.size, h.block⟩
structure Two (w w2 : World) (g : Nat) (T : TypeId) (x y : Array Value) : Prop where
 at0 : w2.heap[g]? = some (.cells x T (0, 0))
 at1 : w2.heap[g + 1]? = some (.cells y T (0, 0))
 size : w2.heap.size = g + 2
 below : Below w.heap.size w w2
theorem Two.mk' (w : World) (T : TypeId) (x y : Array Value) : Two w ((w.alloc (.cells x T)).alloc (.cells y T)) w.heap.size T x y := by
 have h1 : Below w.heap.size w ((w.alloc (.cells x T)).alloc (.cells y T)) := ((Below.refl _ _).alloc (Nat.le_refl _) _).alloc (by simp) _
 refine ⟨?_, ?_, by simp, h1⟩
 ·have := ((Below.refl (w.alloc (.cells x T)).heap.size (w.alloc (.cells x T))).alloc (Nat.le_refl _) (.cells y T)).block w.heap.size (by simp)
  rw [this]
  exact heap_alloc_new w _
 ·have := heap_alloc_new (w.alloc (.cells x T)) (.cells y T)
  simpa using this
theorem Two.later {w w2 u : World} {g : Nat} {T : TypeId} {x y : Array Value} (h : Two w w2 g T x y) (hb : Below w2.heap.size w2 u) : u.heap[g]? = some (.cells x T (0, 0)) ∧ u.heap[g + 1]? = some (.cells y T (0, 0)) := by
 have := h.size
 exact ⟨(hb.block g (by omega)).trans h.at0, (hb.block (g + 1) (by omega)).trans h.at1⟩
theorem next_far {need old : Nat} (h : old < need) : Builtin.nextslicecap need old ≤ need + need / 4 + 512 := by
 unfold Builtin.nextslicecap
 split
 ·omega
 ·split
  ·omega
  ·rw [growBy_four]
   repeat' split
   all_goals omega
theorem zero8 (k : Nat) : (Builtin.zeroCells (Value.int .u8 0).cells k).size = k := by
 rw [size_zeroCells]
 show k * 1 = k
 omega
theorem made8 (w : World) (base N cap : Nat) (A : Array Value) (ys : List Value) (hA : A.toList = ys) (hN : ys.length = N) (hge : N ≤ cap) (hcm : cap ≤ maxLen) (hbase : base ≤ w.heap.size) :
  (w.drew.alloc (.cells (A ++ Builtin.zeroCells (Value.int .u8 0).cells (cap - N)) 5)).ownsRow base 5 1 (.slice (some ⟨w.heap.size, 0, none⟩) N cap) N ys := by
 subst hA
 refine ⟨by omega, .inr ⟨w.heap.size, cap, _, rfl, hbase, heap_alloc_new w.drew _, hge, hcm, ?_, ?_⟩⟩
 ·rw [Array.size_append, zero8]
  rw [Array.length_toList] at hN
  omega
 ·rw [Array.toList_append, Nat.mul_one, ← hN]
  exact List.take_left
theorem made_grown (w : World) (A : Array Value) (t : TypeId) (row : Option Nat) : w.grownBy (w.drew.alloc (.cells A t)) row := ⟨rfl, rfl, rfl, by simp, fun k hk _ => heap_alloc_old w.drew _ hk⟩
theorem run_own8 (w : World) (ty : TypeId) (base n : Nat) (v : Value) (xs : List Value) (hown : w.ownsRow base 5 1 v n xs) (ad : Addr) (m c : Nat) (rs : List Int) (hl : rs.length = m) (hc : ∀ j u, (rs.map (Value.int .u8))[j]? = some u → w.cell? (ad.add j) = some u) (hbytes : n + m ≤ 140737489403904) (hbase : base ≤ w.heap.size) :
  ∃ v' w', (Builtin.append_ #[40, 40] ty #[v, .slice (some ad) m c]).run Tryz.prog w = .ok v' w' ∧ w'.ownsRow base 5 1 v' (n + m) (xs ++ rs.map (Value.int .u8)) ∧ w.grownBy w' v.ownBlock ∧ (v'.ownBlock = v.ownBlock ∨ v'.ownBlock = some w.heap.size) := by
 obtain ⟨i0, hi, hz0, hz1, hz2⟩ := info_parts info5
 have hrl : (rs.map (Value.int .u8)).length = m := by simp [hl]
 by_cases hs : n + m ≤ 140737488355328
 ·obtain ⟨v', w', h1, h2, h3, _, h5⟩ := run_append_own_at (P := Tryz.prog) w base 40 ty 5 i0 (.int .u8 0) 1 1 Tryz.underlying40 hi hz0 hz1 hz2 rfl (by decide) v n _ hown ad m c (rs.map (Value.int .u8)) (by simp [hl]) hc (ints_oneCell _ _) (by unfold maxLen; omega) (by omega) hbase
  exact ⟨v', w', h1, h2, h3, h5⟩
 ·have hxl := hown.1
  rw [Nat.mul_one] at hxl
  rcases hown.2 with ⟨rfl, rfl⟩ | ⟨g, cap, cur, rfl, hbg, hg, hnc, hcm, hcs, htake⟩
  ·have hr := run_append_nil (P := Tryz.prog) w 40 ty 5 i0 (.int .u8 0) Tryz.underlying40 hi hz0 ad m c (rs.map (Value.int .u8)) (by rw [hz1, hrl, Nat.mul_one]) hc (by omega) (by omega) (by rw [hz2]; omega)
   obtain rfl : xs = [] := List.eq_nil_of_length_eq_zero hxl
   simp only [Nat.zero_add, List.nil_append]
   exact ⟨_, _, hr, made8 w base m _ _ _ rfl hrl (grownCap_ge w m 0 5) (grownCap_le_maxLen w m 0 5 (by unfold maxLen; omega)) hbase, made_grown _ _ _ _, Or.inr rfl⟩
  ·by_cases hroom : n + m ≤ cap
   ·have hr := run_append_room (P := Tryz.prog) w 40 ty 5 i0 Tryz.underlying40 hi g n cap cur hg ad m c (rs.map (Value.int .u8)) (by rw [hz1, hrl, Nat.mul_one]) hc (ints_oneCell _ _) hroom (by rw [hz1, hrl]; omega)
    rw [hz1, Nat.mul_one, hrl] at hr
    rw [Nat.mul_one] at htake
    refine ⟨_, _, hr, ⟨by rw [List.length_append, hxl, hrl, Nat.mul_one], .inr ⟨g, cap, _, rfl, hbg, setRow_heap w g cur _ 5 _ hg, hroom, hcm, ?_, ?_⟩⟩, ⟨rfl, rfl, rfl, by simp, fun k _ hk => setRow_other w g k _ (fun e => hk (by simp [Value.ownBlock, e]))⟩, Or.inl rfl⟩
    ·have hcl : cur.toList.length = cur.size := Array.length_toList
     simp only [List.size_toArray, List.length_append, List.length_take, List.length_drop, hrl]
     omega
    ·rw [htake, Nat.mul_one]
     exact List.take_left' (by rw [List.length_append, hxl, hrl])
   ·have hr := run_append_grow (P := Tryz.prog) w 40 ty 5 i0 (.int .u8 0) Tryz.underlying40 hi hz0 ⟨g, 0, none⟩ n cap xs (by rw [hz1, hxl, Nat.mul_one]) (hown.cells (g := g) rfl) ad m c (rs.map (Value.int .u8)) (by rw [hz1, hrl, Nat.mul_one]) hc (by omega) (by omega) (by have := next_far (need := n + m) (old := cap) (by omega); rw [hz2]; omega)
    exact ⟨_, _, hr, made8 w base (n + m) _ _ _ (by simp) (by rw [List.length_append, hxl, hrl]) (grownCap_ge w (n + m) cap 5) (grownCap_le_maxLen w (n + m) cap 5 (by unfold maxLen; omega)) hbase, made_grown _ _ _ _, Or.inr rfl⟩
open Lib in
structure Grew (w w' : World) (v v' : Value) : Prop where
 grown : w.grownBy w' v.ownBlock
 row : ∀ b, v'.ownBlock = some b → v.ownBlock = some b ∨ w.heap.size ≤ b
theorem Grew.refl (w : World) (v : Value) : Grew w w v v := ⟨World.grownBy.refl _ _, fun _ h => Or.inl h⟩
theorem Grew.trans {w w1 w2 : World} {v v1 v2 : Value} (h : Grew w w1 v v1) (h2 : Grew w1 w2 v1 v2) : Grew w w2 v v2 := by
 have hs := h.grown.size
 refine ⟨⟨h2.grown.os.trans h.grown.os, h2.grown.tape.trans h.grown.tape, h2.grown.output.trans h.grown.output, Nat.le_trans h.grown.size h2.grown.size, fun k hk hn => ?_⟩, fun b hb => ?_⟩
 ·rw [h2.grown.block k (by omega) (fun e => ?_), h.grown.block k hk hn]
  rcases h.row k e.symm with h' | h'
  ·exact hn h'.symm
  ·omega
 ·rcases h2.row b hb with h' | h'
  ·rcases h.row b h' with h' | h'
   ·exact Or.inl h'
   ·exact Or.inr h'
  ·exact Or.inr (by omega)
theorem Grew.behind {w w1 w2 : World} {v v2 : Value} (hb : Below w.heap.size w w1) (h : Grew w1 w2 v v2) : Grew w w2 v v2 := by
 have hs := hb.size
 refine ⟨⟨h.grown.os.trans hb.os, h.grown.tape.trans hb.tape, h.grown.output.trans hb.output, Nat.le_trans hb.size h.grown.size, fun k hk hn => ?_⟩, fun b e => ?_⟩
 ·rw [h.grown.block k (by omega) hn, hb.block k hk]
 ·rcases h.row b e with h' | h'
  ·exact Or.inl h'
  ·exact Or.inr (by omega)
theorem Grew.below {w w' : World} {v v' : Value} {base : Nat} {n : Nat} {xs : List Value} (h : Grew w w' v v') (ho : w.ownsRow base 5 1 v n xs) (hb : base ≤ w.heap.size) : Below base w w' :=
 (Below.refl _ _).grown h.grown hb (fun k e => (ho.lt k e).1)
theorem Grew.far {w w' : World} {v v' : Value} (h : Grew w w' v v') {b : Nat} (hb : b < w.heap.size) (hn : some b ≠ v.ownBlock) : w'.heap[b]? = w.heap[b]? := h.grown.block b hb hn
theorem own_below {w w' : World} {base : Nat} {e : TypeId} {size : Nat} {v : Value} {n : Nat} {xs : List Value} (h : w.ownsRow base e size v n xs) (hb : Below w.heap.size w w') : w'.ownsRow base e size v n xs := by
 refine ⟨h.1, ?_⟩
 rcases h.2 with hn | ⟨g, cap, cur, rfl, hbs, hg, rest⟩
 ·exact .inl hn
 ·exact .inr ⟨g, cap, cur, rfl, hbs, (hb.block g (Array.getElem?_eq_some_iff.1 hg).1).trans hg, rest⟩
theorem run_app (w : World) (ty : TypeId) (base n : Nat) (v : Value) (xs : List Int) (hown : w.ownsRow base 5 1 v n (xs.map (Value.int .u8))) (ao : Option Addr) (m c : Nat) (rs : List Int) (hr : Row8 w ao m c rs) (hbytes : n + m ≤ 140737489403904) (hbase : base ≤ w.heap.size) :
  ∃ v' w', (Builtin.append_ #[40, 40] ty #[v, .slice ao m c]).run Tryz.prog w = .ok v' w' ∧ w'.ownsRow base 5 1 v' (n + m) ((xs ++ rs).map (Value.int .u8)) ∧ Grew w w' v v' := by
 obtain ⟨i0, hi, hz0, hz1, hz2⟩ := info_parts info5
 have hl := hr.length
 cases ao with
 | none =>
  obtain ⟨rfl, rfl⟩ := hr.none rfl
  have hrs : rs = [] := List.eq_nil_of_length_eq_zero hl
  subst hrs
  exact ⟨v, w, run_append_owned_none (P := Tryz.prog) (w := w) base 40 ty 5 i0 1 Tryz.underlying40 hi v n _ hown, by simpa using hown, Grew.refl _ _⟩
 | some ad =>
  obtain ⟨v', w', h1, h2, h3, h5⟩ := run_own8 w ty base n v _ hown ad m c rs hl (hr.cells ad rfl) hbytes hbase
  refine ⟨v', w', h1, by rw [List.map_append]; exact h2, h3, fun b hb => ?_⟩
  rcases h5 with e | e
  ·exact Or.inl (by rw [← e]; exact hb)
  ·rw [hb] at e
   exact Or.inr (by rw [Option.some.inj e]; exact Nat.le_refl _)
theorem wpl_app {w : World} {ops : Array Oper} {rest : List Oper} {o : Oper} {a : Act} {Q : Exit → Act → World → Prop} (hgd : o.guard = none) (sl x : Operand)
  (ho : o.op = .call { callee := .builtin .append, args := #[sl, x], argTypes := #[40, 40] })
  (base n : Nat) (v : Value) (xs : List Int) (hs : a.eval sl = v) (hown : w.ownsRow base 5 1 v n (xs.map (Value.int .u8)))
  (ao : Option Addr) (m c : Nat) (rs : List Int) (hx : a.eval x = .slice ao m c) (hr : Row8 w ao m c rs)
  (hbytes : n + m ≤ 140737489403904) (hbase : base ≤ w.heap.size)
  (h : ∀ v' w', Hid (w'.ownsRow base 5 1 v' (n + m) ((xs ++ rs).map (Value.int .u8)) ∧ Grew w w' v v') → wpList Tryz.prog ops Q rest (a.put o.dst v') w') :
  wpList Tryz.prog ops Q (o :: rest) a w := by
 refine wpList_plain hgd fun K hK => ?_
 obtain ⟨v', w', hrun, h1, h2⟩ := run_app w o.type base n v xs hown ao m c rs hr hbytes hbase
 unfold Oper.wp
 simp only [execOp, ho, resolve, invoke, builtin, Sem.run_bind, Sem.run_pure, Result.andThen_ok, List.map_toArray, List.map_cons, List.map_nil, hs, hx, hrun]
 exact hK _ _ (h v' w' ⟨h1, h2⟩)
theorem step_app {w : World} {ops : Array Oper} {o : Oper} {a : Act} {K : Act → World → Prop} {Q : Exit → Act → World → Prop} {E : Prop} (hgd : o.guard = none) (sl x : Operand)
  (ho : o.op = .call { callee := .builtin .append, args := #[sl, x], argTypes := #[40, 40] })
  (base n : Nat) (v : Value) (xs : List Int) (hs : a.eval sl = v) (hown : w.ownsRow base 5 1 v n (xs.map (Value.int .u8)))
  (ao : Option Addr) (m c : Nat) (rs : List Int) (hx : a.eval x = .slice ao m c) (hr : Row8 w ao m c rs)
  (hbytes : n + m ≤ 140737489403904) (hbase : base ≤ w.heap.size)
  (h : ∀ v' w', Hid (w'.ownsRow base 5 1 v' (n + m) ((xs ++ rs).map (Value.int .u8)) ∧ Grew w w' v v') → K (a.put o.dst v') w') :
  if Region.wanted o (yielded ops a.tmps) = true then Oper.wp Tryz.prog o a w K Q else E := by
 rw [if_pos (show Region.wanted o (yielded ops a.tmps) = true by simp [Region.wanted, hgd])]
 obtain ⟨v', w', hrun, h1, h2⟩ := run_app w o.type base n v xs hown ao m c rs hr hbytes hbase
 unfold Oper.wp
 simp only [execOp, ho, resolve, invoke, builtin, Sem.run_bind, Sem.run_pure, Result.andThen_ok, List.map_toArray, List.map_cons, List.map_nil, hs, hx, hrun]
 exact h v' w' ⟨h1, h2⟩
theorem row_one {w : World} {g : Nat} {x : Int} (h : w.heap[g]? = some (.cells #[.int .u8 x] 5 (0, 0))) (h0 : 0 ≤ x) (h1 : x ≤ 255) : Row8 w (some ⟨g, 0, none⟩) 1 1 [x] := by
 refine ⟨rfl, (fun e => by cases e), fun ad ha j u hj => ?_, by intro n hn; simp at hn; omega, Nat.le_refl _⟩
 cases ha
 exact World.news_of_block h j u (by simpa using hj)
theorem wpl_zeros {w : World} {ops : Array Oper} {rest : List Oper} {o : Oper} {a : Act} {Q : Exit → Act → World → Prop} (hgd : o.guard = none) (sl x : Operand)
  (ho : o.op = .call { callee := .builtin .append, args := #[sl, x], argTypes := #[40, 3] })
  (n : Nat) (hs : a.eval sl = .slice none 0 0) (hx : a.eval x = .int .i64 (n : Int)) (hn : 0 < n) (hb : n ≤ 140737489403904)
  (h : ∀ cap w', n ≤ cap → cap ≤ maxLen → Hid (w'.ownsRow w.heap.size 5 1 (.slice (some ⟨w.heap.size, 0, none⟩) 0 cap) 0 [] ∧ Below w.heap.size w w') → wpList Tryz.prog ops Q rest (a.put o.dst (.slice (some ⟨w.heap.size, 0, none⟩) n cap)) w') :
  wpList Tryz.prog ops Q (o :: rest) a w := by
 obtain ⟨i0, hi, hz0, hz1, hz2⟩ := info_parts info5
 refine wpList_plain hgd fun K hK => ?_
 have hrun := Lib.run_append_nil_zeros (P := Tryz.prog) w 40 3 o.type 5 i0 (.int .u8 0) .i64 .i64 Tryz.underlying40 Tryz.underlying3 hi hz0 n hn (by omega) (by omega) (by rw [hz2]; omega)
 unfold Oper.wp
 simp only [execOp, ho, resolve, invoke, builtin, Sem.run_bind, Sem.run_pure, Result.andThen_ok, List.map_toArray, List.map_cons, List.map_nil, hs, hx, hrun]
 have hge := grownCap_ge w n 0 5
 have hle := grownCap_le_maxLen w n 0 5 (by unfold maxLen; omega)
 refine hK _ _ (h _ _ hge hle ⟨?_, ((Below.refl _ _).drew).alloc (Nat.le_refl _) _⟩)
 refine World.ownsRow_made (base := w.heap.size) w.drew _ _ (Nat.le_refl _) hle ?_
 have hz : ∀ k, (Builtin.zeroCells (Value.int .u8 0).cells k).size = k := fun k => by
  rw [size_zeroCells]
  show k * 1 = k
  omega
 rw [Array.size_append, hz, hz]
 omega
theorem grow_nil (n : Nat) (w : World) (hn : n ≤ 140737489403904) :
  Calls Tryz.prog 122 #[.slice none 0 0, .int .i64 (n : Int)] w fun e w' => ∃ sv, e = .returned sv ∧ w'.ownsRow w.heap.size 5 1 sv 0 [] ∧ Below w.heap.size w w' := by
 by_cases h0 : n = 0
 ·subst h0
  go_enter Tryz.func122, Tryz.ntmps122
  go_wp2_with fail
  go_ret
  exact ⟨_, rfl, World.ownsRow_nil _ _ _ _, Below.refl _ _⟩
 ·have n0 : (0 : Int) < (n : Int) := by omega
  have n0' : 0 < n := by omega
  have n1 : ¬ (n : Int) < 0 := by omega
  go_enter Tryz.func122, Tryz.ntmps122
  go_wp2_with (first | (at_builtin; refine wpl_zeros rfl (.tmp 20) (.tmp 21) rfl n rfl rfl n0' hn ?_; intro cap w1 hc1 hc2 H1; have c1 : (0 : Int) ≤ (cap : Int) := by omega))
  go_ret
  exact ⟨_, rfl, (uh H1).1, (uh H1).2⟩
theorem two_cell {w : World} {g : Nat} {x0 x1 : Value} {T : TypeId} (h : w.heap[g]? = some (.cells #[x0, x1] T (0, 0))) : w.cell? ⟨g, 0, none⟩ = some x0 ∧ w.cell? ⟨g, 1, none⟩ = some x1 :=
 ⟨by rw [cell_of_row w g 0 _ _ (0, 0) h]; rfl, by rw [cell_of_row w g 1 _ _ (0, 0) h]; rfl⟩
theorem concat_two (gb : Nat) (T : TypeId) (ab ac : Option Addr) (lb cb lc cc : Nat) (zs ys : List Int) (w : World) (hrow : w.heap[gb]? = some (.cells #[.slice ab lb cb, .slice ac lc cc] T (0, 0))) (hz : Row8 w ab lb cb zs) (hy : Row8 w ac lc cc ys) (hb : lb + lc ≤ 140737489403904) :
  Calls Tryz.prog 94 #[.slice (some ⟨gb, 0, none⟩) 2 2] w fun e w' => ∃ sv, e = .returned sv ∧ w'.ownsRow w.heap.size 5 1 sv (lb + lc) ((zs ++ ys).map (Value.int .u8)) ∧ Below w.heap.size w w' := by
 have HR : Hid (∀ u, Below w.heap.size w u → (u.cell? ⟨gb, 0, none⟩ = some (.slice ab lb cb) ∧ u.cell? ⟨gb, 1, none⟩ = some (.slice ac lc cc)) ∧ Row8 u ab lb cb zs ∧ Row8 u ac lc cc ys) := hide (fun u hu => ⟨two_cell ((hu.block gb ((Array.getElem?_eq_some_iff.1 hrow).1)).trans hrow), hz.later hu, hy.later hu⟩)
 have CG := hide (grow_nil (lb + lc) w hb)
 obtain ⟨N2, hN2⟩ : ∃ N2, lb + lc = N2 := ⟨_, rfl⟩
 rw [hN2] at CG
 have HN2 := hide hN2
 have l1 : lb ≤ 140737489403904 := by omega
 have l2 : N2 ≤ 140737489403904 := by omega
 have l3 : (lb : Int) + (lc : Int) = (N2 : Int) := by omega
 have l4 : IntKind.i64.wrap (N2 : Int) = (N2 : Int) := by rw [IntKind.wrap_i64]; omega
 have l5 : IntKind.i64.wrap (lb : Int) = (lb : Int) := by rw [IntKind.wrap_i64]; omega
 have l6 : ¬ (N2 : Int) < 0 := by omega
 have l7 : ¬ (lb : Int) < 0 := by omega
 obtain ⟨⟨c0, c1⟩, _⟩ := uh HR w (Below.refl _ _)
 rw [hN2]
 clear hrow hz hy hb hN2
 go_enter Tryz.func94, Tryz.ntmps94
 go_wp2_with fail
 go_loopw [3, 11] (fun y x wr => ∃ i N : Nat, x = .int .i64 (i : Int) ∧ y = .int .i64 (N : Int) ∧ wr = w ∧ ((i = 0 ∧ N = 0) ∨ (i = 1 ∧ N = lb) ∨ (i = 2 ∧ N = N2))) (fun _ x _ => 2 - (intOf x).toNat)
 case atStart => exact ⟨0, 0, rfl, rfl, rfl, Or.inl ⟨rfl, rfl⟩⟩
 case round =>
  obtain ⟨i, N, rfl, rfl, hwr, h | h | h⟩ := hrel
  ·obtain ⟨rfl, rfl⟩ := h
   obtain rfl := hwr.symm
   go_wp2_with fail
   go_roundw
   case rel => exact ⟨1, lb, by go_num, by first | rfl | go_num | simp, by first | rfl | trivial, Or.inr (Or.inl ⟨rfl, rfl⟩)⟩
   case measure => simp [intOf]
  ·obtain ⟨rfl, rfl⟩ := h
   obtain rfl := hwr.symm
   go_wp2_with fail
   go_roundw
   case rel => exact ⟨2, N2, by go_num, by first | rfl | go_num | simp, by first | rfl | trivial, Or.inr (Or.inr ⟨rfl, rfl⟩)⟩
   case measure => simp [intOf]
  ·obtain ⟨rfl, rfl⟩ := h
   obtain rfl := hwr.symm
   go_wp2_with fail
   refine (uh CG).mono ?_
   rintro e w1 ⟨sv1, rfl, own1, b1⟩
   have H1 := hide (And.intro own1 b1)
   clear own1 b1 CG c0 c1
   go_wp2_with fail
   go_loopw [6, 27] (fun v x wr => ∃ (i n : Nat) (xs : List Int), x = .int .i64 (i : Int) ∧ ((i = 0 ∧ n = 0) ∨ (i = 1 ∧ n = lb) ∨ (i = 2 ∧ n = N)) ∧ Hid (wr.ownsRow w.heap.size 5 1 v n (xs.map (Value.int .u8)) ∧ Below w.heap.size w wr ∧ ((i = 0 ∧ xs = []) ∨ (i = 1 ∧ xs = zs) ∨ (i = 2 ∧ xs = zs ++ ys)))) (fun _ x _ => 2 - (intOf x).toNat)
   case atStart => exact ⟨0, 0, [], rfl, Or.inl ⟨rfl, rfl⟩, hide ⟨(uh H1).1, (uh H1).2, Or.inl ⟨rfl, rfl⟩⟩⟩
   case round =>
    clear H1
    obtain ⟨i, n, xs, rfl, h, HO⟩ := hrel
    rcases h with h | h | h
    ·obtain ⟨rfl, rfl⟩ := h
     obtain ⟨own, bel, hx⟩ := uh HO
     have hxs : xs = [] := by rcases hx with ⟨e, h⟩ | ⟨e, h⟩ | ⟨e, h⟩ <;> first | exact h | cases e
     subst hxs
     obtain ⟨⟨c0, c1⟩, r0, r1⟩ := uh HR wr bel
     have H2 := hide (And.intro own (And.intro bel (And.intro r0 r1)))
     have bs := bel.size
     clear own bel r0 r1 hx HO
     have tok1 : True := trivial
     go_wp2_with (first | (at_builtin; have _t := tok1; refine wpl_app rfl (.tmp 31) (.tmp 32) rfl w.heap.size 0 _ [] rfl (uh H2).1 ab lb cb zs rfl (uh H2).2.2.1 (by omega) bs ?_; intro v' w' H3; clear tok1))
     go_roundw
     case rel => exact ⟨1, _, _, by go_num, Or.inr (Or.inl ⟨rfl, by omega⟩), hide ⟨(uh H3).1, (uh H2).2.1.grown (uh H3).2.grown bs (fun k e => ((uh H2).1.lt k e).1), Or.inr (Or.inl ⟨rfl, by simp⟩)⟩⟩
     case measure => simp [intOf]
    ·obtain ⟨rfl, hn⟩ := h
     obtain ⟨own, bel, hx⟩ := uh HO
     have hxs : xs = zs := by rcases hx with ⟨e, h⟩ | ⟨e, h⟩ | ⟨e, h⟩ <;> first | exact h | cases e
     have HXS := hide hxs
     clear hxs
     obtain ⟨⟨c0, c1⟩, r0, r1⟩ := uh HR wr bel
     have H2 := hide (And.intro own (And.intro bel (And.intro r0 r1)))
     have bs := bel.size
     clear own bel r0 r1 hx HO
     have tok1 : True := trivial
     go_wp2_with (first | (at_builtin; have _t := tok1; refine wpl_app rfl (.tmp 31) (.tmp 32) rfl w.heap.size n _ xs rfl (uh H2).1 ac lc cc ys rfl (uh H2).2.2.2 (by have := uh HN2; omega) bs ?_; intro v' w' H3; clear tok1))
     go_roundw
     case rel => exact ⟨2, _, _, by go_num, Or.inr (Or.inr ⟨rfl, by have := uh HN2; omega⟩), hide ⟨(uh H3).1, (uh H2).2.1.grown (uh H3).2.grown bs (fun k e => ((uh H2).1.lt k e).1), Or.inr (Or.inr ⟨rfl, by rw [uh HXS]⟩)⟩⟩
     case measure => simp [intOf]
    ·obtain ⟨rfl, rfl⟩ := h
     obtain ⟨own, bel, hx⟩ := uh HO
     have hxs : xs = zs ++ ys := by rcases hx with ⟨e, h⟩ | ⟨e, h⟩ | ⟨e, h⟩ <;> first | exact h | cases e
     subst hxs
     have H2 := hide (And.intro own bel)
     clear own bel hx HO
     go_wp2_with fail
     go_ret
     exact ⟨_, rfl, (uh H2).1, (uh H2).2⟩
end Go.Proofs.YtgkmdjmigehmeaaGreatDoor

/-
  Append of bytes onto a row of the call's own, nil or not, and what stands behind it: Grow of nothing, Concat of two; conditions: the lengths together are below 2^47 and a million.
-/
import Derived.Test.YtmnbfcpkaglniaaGreatDoorS04
import Derived.Deep.AppendLies
import Derived.Lib.AppendZeros
import Derived.Laws.AppendOwnNone
set_option linter.unusedVariables false
set_option linter.unusedSimpArgs false
namespace Go.Proofs.YtmnbfcpkaglniaaGreatDoor
open Go.RowKit
/-- the world behind something that has grown a row -/
structure Grew (w w' : World) (v v' : Value) : Prop where
  grown : w.grownBy w' v.ownBlock
  row : ∀ b, v'.ownBlock = some b → v.ownBlock = some b ∨ w.heap.size ≤ b
theorem Grew.refl (w : World) (v : Value) : Grew w w v v := ⟨World.grownBy.refl _ _, fun _ h => Or.inl h⟩
theorem Grew.trans {w w1 w2 : World} {v v1 v2 : Value} (h : Grew w w1 v v1) (h2 : Grew w1 w2 v1 v2) : Grew w w2 v v2 := by
  have hs := h.grown.size
  refine ⟨⟨h2.grown.os.trans h.grown.os, h2.grown.tape.trans h.grown.tape, h2.grown.output.trans h.grown.output, Nat.le_trans h.grown.size h2.grown.size, fun k hk hn => ?_⟩, fun b hb => ?_⟩
  · rw [h2.grown.block k (by omega) (fun e => ?_), h.grown.block k hk hn]
    rcases h.row k e.symm with h' | h'
    · exact hn h'.symm
    · omega
  · rcases h2.row b hb with h' | h'
    · rcases h.row b h' with h' | h'
      · exact Or.inl h'
      · exact Or.inr h'
    · exact Or.inr (by omega)
theorem Grew.behind {w w1 w2 : World} {v v2 : Value} (hb : Below w.heap.size w w1) (h : Grew w1 w2 v v2) : Grew w w2 v v2 := by
  have hs := hb.size
  refine ⟨⟨h.grown.os.trans hb.os, h.grown.tape.trans hb.tape, h.grown.output.trans hb.output, Nat.le_trans hb.size h.grown.size, fun k hk hn => ?_⟩, fun b e => ?_⟩
  · rw [h.grown.block k (by omega) hn, hb.block k hk]
  · rcases h.row b e with h' | h'
    · exact Or.inl h'
    · exact Or.inr (by omega)
theorem Grew.ahead {w w1 w2 : World} {v v1 : Value} (h : Grew w w1 v v1) (hb : Below w1.heap.size w1 w2) : Grew w w2 v v1 := by
  have hs := h.grown.size
  refine ⟨⟨hb.os.trans h.grown.os, hb.tape.trans h.grown.tape, hb.output.trans h.grown.output, Nat.le_trans h.grown.size hb.size, fun k hk hn => ?_⟩, h.row⟩
  rw [hb.block k (by omega), h.grown.block k hk hn]
theorem Grew.below {w w' : World} {v v' : Value} {base : Nat} {n : Nat} {xs : List Value} (h : Grew w w' v v') (ho : w.ownsRow base 5 1 v n xs) (hb : base ≤ w.heap.size) : Below base w w' :=
  (Below.refl _ _).grown h.grown hb (fun k e => (ho.lt k e).1)
theorem Grew.far {w w' : World} {v v' : Value} (h : Grew w w' v v') {b : Nat} (hb : b < w.heap.size) (hn : some b ≠ v.ownBlock) : w'.heap[b]? = w.heap[b]? := h.grown.block b hb hn
theorem own_below {w w' : World} {base : Nat} {e : TypeId} {size : Nat} {v : Value} {n : Nat} {xs : List Value} (h : w.ownsRow base e size v n xs) (hb : Below w.heap.size w w') : w'.ownsRow base e size v n xs := by
  refine ⟨h.1, ?_⟩
  rcases h.2 with hn | ⟨g, cap, cur, rfl, hbs, hg, rest⟩
  · exact .inl hn
  · exact .inr ⟨g, cap, cur, rfl, hbs, (hb.block g (Array.getElem?_eq_some_iff.1 hg).1).trans hg, rest⟩
theorem run_app (w : World) (ty : TypeId) (base n : Nat) (v : Value) (xs : List Int) (hown : w.ownsRow base 5 1 v n (xs.map (Value.int .u8))) (ao : Option Addr) (m c : Nat) (rs : List Int) (hr : Row8 w ao m c rs) (hbytes : n + m ≤ 140737489403904) (hbase : base ≤ w.heap.size) :
    ∃ v' w', (Builtin.append_ #[90, 90] ty #[v, .slice ao m c]).run Tryz.prog w = .ok v' w' ∧ w'.ownsRow base 5 1 v' (n + m) ((xs ++ rs).map (Value.int .u8)) ∧ Grew w w' v v' := by
  obtain ⟨i0, hi, hz0, hz1, hz2⟩ := info_parts info5
  have hl := hr.length
  cases ao with
  | none =>
    obtain ⟨rfl, rfl⟩ := hr.none rfl
    have hrs : rs = [] := List.eq_nil_of_length_eq_zero hl
    subst hrs
    exact ⟨v, w, run_append_owned_none (P := Tryz.prog) (w := w) base 90 ty 5 i0 1 Tryz.underlying90 hi v n _ hown, by simpa using hown, Grew.refl _ _⟩
  | some ad =>
    obtain ⟨v', w', h1, h2, h3, h5⟩ := run_own8 w ty base n v _ hown ad m c rs hl (hr.cells ad rfl) hbytes hbase
    refine ⟨v', w', h1, by rw [List.map_append]; exact h2, h3, fun b hb => ?_⟩
    rcases h5 with e | e
    · exact Or.inl (by rw [← e]; exact hb)
    · rw [hb] at e
      exact Or.inr (by rw [Option.some.inj e]; exact Nat.le_refl _)
/-- append, at a plain region's list -/
theorem wpl_app {w : World} {ops : Array Oper} {rest : List Oper} {o : Oper} {a : Act} {Q : Exit → Act → World → Prop} (hgd : o.guard = none) (sl x : Operand)
    (ho : o.op = .call { callee := .builtin .append, args := #[sl, x], argTypes := #[90, 90] })
    (base n : Nat) (v : Value) (xs : List Int) (hs : a.eval sl = v) (hown : w.ownsRow base 5 1 v n (xs.map (Value.int .u8)))
    (ao : Option Addr) (m c : Nat) (rs : List Int) (hx : a.eval x = .slice ao m c) (hr : Row8 w ao m c rs)
    (hbytes : n + m ≤ 140737489403904) (hbase : base ≤ w.heap.size)
    (h : ∀ v' w', Hid (w'.ownsRow base 5 1 v' (n + m) ((xs ++ rs).map (Value.int .u8)) ∧ Grew w w' v v') → wpList Tryz.prog ops Q rest (a.put o.dst v') w') :
    wpList Tryz.prog ops Q (o :: rest) a w := by
  refine wpList_plain hgd fun K hK => ?_
  obtain ⟨v', w', hrun, h1, h2⟩ := run_app w o.type base n v xs hown ao m c rs hr hbytes hbase
  unfold Oper.wp
  simp only [execOp, ho, resolve, invoke, builtin, Sem.run_bind, Sem.run_pure, Result.andThen_ok, List.map_toArray, List.map_cons, List.map_nil, hs, hx, hrun]
  exact hK _ _ (h v' w' ⟨h1, h2⟩)
/-- append, at a step of a region that draws -/
theorem step_app {w : World} {ops : Array Oper} {o : Oper} {a : Act} {K : Act → World → Prop} {Q : Exit → Act → World → Prop} {E : Prop} (hgd : o.guard = none) (sl x : Operand)
    (ho : o.op = .call { callee := .builtin .append, args := #[sl, x], argTypes := #[90, 90] })
    (base n : Nat) (v : Value) (xs : List Int) (hs : a.eval sl = v) (hown : w.ownsRow base 5 1 v n (xs.map (Value.int .u8)))
    (ao : Option Addr) (m c : Nat) (rs : List Int) (hx : a.eval x = .slice ao m c) (hr : Row8 w ao m c rs)
    (hbytes : n + m ≤ 140737489403904) (hbase : base ≤ w.heap.size)
    (h : ∀ v' w', Hid (w'.ownsRow base 5 1 v' (n + m) ((xs ++ rs).map (Value.int .u8)) ∧ Grew w w' v v') → K (a.put o.dst v') w') :
    if Region.wanted o (yielded ops a.tmps) = true then Oper.wp Tryz.prog o a w K Q else E := by
  rw [if_pos (show Region.wanted o (yielded ops a.tmps) = true by simp [Region.wanted, hgd])]
  obtain ⟨v', w', hrun, h1, h2⟩ := run_app w o.type base n v xs hown ao m c rs hr hbytes hbase
  unfold Oper.wp
  simp only [execOp, ho, resolve, invoke, builtin, Sem.run_bind, Sem.run_pure, Result.andThen_ok, List.map_toArray, List.map_cons, List.map_nil, hs, hx, hrun]
  exact h v' w' ⟨h1, h2⟩
/-- one byte that was just laid -/
theorem row_one {w : World} {g : Nat} {x : Int} (h : w.heap[g]? = some (.cells #[.int .u8 x] 5 (0, 0))) (h0 : 0 ≤ x) (h1 : x ≤ 255) : Row8 w (some ⟨g, 0, none⟩) 1 1 [x] := by
  refine ⟨rfl, (fun e => by cases e), fun ad ha j u hj => ?_, by intro n hn; simp at hn; omega, Nat.le_refl _⟩
  cases ha
  exact World.news_of_block h j u (by simpa using hj)
/-- append(nothing, make([]byte, n)...) -/
theorem wpl_zeros {w : World} {ops : Array Oper} {rest : List Oper} {o : Oper} {a : Act} {Q : Exit → Act → World → Prop} (hgd : o.guard = none) (sl x : Operand)
    (ho : o.op = .call { callee := .builtin .append, args := #[sl, x], argTypes := #[90, 3] })
    (n : Nat) (hs : a.eval sl = .slice none 0 0) (hx : a.eval x = .int .i64 (n : Int)) (hn : 0 < n) (hb : n ≤ 140737489403904)
    (h : ∀ cap w', n ≤ cap → cap ≤ maxLen → Hid (w'.ownsRow w.heap.size 5 1 (.slice (some ⟨w.heap.size, 0, none⟩) 0 cap) 0 [] ∧ Below w.heap.size w w') → wpList Tryz.prog ops Q rest (a.put o.dst (.slice (some ⟨w.heap.size, 0, none⟩) n cap)) w') :
    wpList Tryz.prog ops Q (o :: rest) a w := by
  obtain ⟨i0, hi, hz0, hz1, hz2⟩ := info_parts info5
  refine wpList_plain hgd fun K hK => ?_
  have hrun := Lib.run_append_nil_zeros (P := Tryz.prog) w 90 3 o.type 5 i0 (.int .u8 0) .i64 .i64 Tryz.underlying90 Tryz.underlying3 hi hz0 n hn (by omega) (by omega) (by rw [hz2]; omega)
  unfold Oper.wp
  simp only [execOp, ho, resolve, invoke, builtin, Sem.run_bind, Sem.run_pure, Result.andThen_ok, List.map_toArray, List.map_cons, List.map_nil, hs, hx, hrun]
  have hge := grownCap_ge w n 0 5
  have hle := grownCap_le_maxLen w n 0 5 (by unfold maxLen; omega)
  refine hK _ _ (h _ _ hge hle ⟨?_, ((Below.refl _ _).drew).alloc (Nat.le_refl _) _⟩)
  refine World.ownsRow_made (base := w.heap.size) w.drew _ _ (Nat.le_refl _) hle ?_
  have hz : ∀ k, (Builtin.zeroCells (Value.int .u8 0).cells k).size = k := fun k => by
    rw [size_zeroCells]
    show k * 1 = k
    omega
  rw [Array.size_append, hz, hz]
  omega
set_option maxRecDepth 100000 in
set_option maxHeartbeats 400000 in
theorem grow_nil (n : Nat) (w : World) (hn : n ≤ 140737489403904) :
    Calls Tryz.prog 245 #[.slice none 0 0, .int .i64 (n : Int)] w fun e w' => ∃ sv, e = .returned sv ∧ w'.ownsRow w.heap.size 5 1 sv 0 [] ∧ Below w.heap.size w w' := by
  by_cases h0 : n = 0
  · subst h0
    go_enter Tryz.func245, Tryz.ntmps245
    go_wp2_with fail
    go_ret
    exact ⟨_, rfl, World.ownsRow_nil _ _ _ _, Below.refl _ _⟩
  · have n0 : (0 : Int) < (n : Int) := by omega
    have n0' : 0 < n := by omega
    have n1 : ¬ (n : Int) < 0 := by omega
    go_enter Tryz.func245, Tryz.ntmps245
    go_wp2_with (first | (at_builtin; refine wpl_zeros rfl (.tmp 20) (.tmp 21) rfl n rfl rfl n0' hn ?_; intro cap w1 hc1 hc2 H1; have c1 : (0 : Int) ≤ (cap : Int) := by omega))
    go_ret
    exact ⟨_, rfl, (unhide H1).1, (unhide H1).2⟩
theorem two_cell {w : World} {g : Nat} {x0 x1 : Value} {T : TypeId} (h : w.heap[g]? = some (.cells #[x0, x1] T (0, 0))) : w.cell? ⟨g, 0, none⟩ = some x0 ∧ w.cell? ⟨g, 1, none⟩ = some x1 :=
  ⟨by rw [cell_of_row w g 0 _ _ (0, 0) h]; rfl, by rw [cell_of_row w g 1 _ _ (0, 0) h]; rfl⟩
set_option maxRecDepth 100000 in
set_option maxHeartbeats 800000 in
theorem concat_two (gb : Nat) (T : TypeId) (ab ac : Option Addr) (lb cb lc cc : Nat) (zs ys : List Int) (w : World) (hrow : w.heap[gb]? = some (.cells #[.slice ab lb cb, .slice ac lc cc] T (0, 0))) (hz : Row8 w ab lb cb zs) (hy : Row8 w ac lc cc ys) (hb : lb + lc ≤ 140737489403904) :
    Calls Tryz.prog 220 #[.slice (some ⟨gb, 0, none⟩) 2 2] w fun e w' => ∃ sv, e = .returned sv ∧ w'.ownsRow w.heap.size 5 1 sv (lb + lc) ((zs ++ ys).map (Value.int .u8)) ∧ Below w.heap.size w w' := by
  have HR : Hid (∀ u, Below w.heap.size w u → (u.cell? ⟨gb, 0, none⟩ = some (.slice ab lb cb) ∧ u.cell? ⟨gb, 1, none⟩ = some (.slice ac lc cc)) ∧ Row8 u ab lb cb zs ∧ Row8 u ac lc cc ys) := hide (fun u hu => ⟨two_cell ((hu.block gb ((Array.getElem?_eq_some_iff.1 hrow).1)).trans hrow), hz.later hu, hy.later hu⟩)
  have CG := hide (grow_nil (lb + lc) w hb)
  obtain ⟨N2, hN2⟩ : ∃ N2, lb + lc = N2 := ⟨_, rfl⟩
  rw [hN2] at CG
  have HN2 := hide hN2
  have l1 : lb ≤ 140737489403904 := by omega
  have l2 : N2 ≤ 140737489403904 := by omega
  have l3 : (lb : Int) + (lc : Int) = (N2 : Int) := by omega
  have l4 : IntKind.i64.wrap (N2 : Int) = (N2 : Int) := by rw [IntKind.wrap_i64]; omega
  have l5 : IntKind.i64.wrap (lb : Int) = (lb : Int) := by rw [IntKind.wrap_i64]; omega
  have l6 : ¬ (N2 : Int) < 0 := by omega
  have l7 : ¬ (lb : Int) < 0 := by omega
  obtain ⟨⟨c0, c1⟩, _⟩ := unhide HR w (Below.refl _ _)
  rw [hN2]
  clear hrow hz hy hb hN2
  go_enter Tryz.func220, Tryz.ntmps220
  go_wp2_with fail
  go_loopw [3, 11] (fun y x wr => ∃ i N : Nat, x = .int .i64 (i : Int) ∧ y = .int .i64 (N : Int) ∧ wr = w ∧ ((i = 0 ∧ N = 0) ∨ (i = 1 ∧ N = lb) ∨ (i = 2 ∧ N = N2))) (fun _ x _ => 2 - (intOf x).toNat)
  case atStart => exact ⟨0, 0, rfl, rfl, rfl, Or.inl ⟨rfl, rfl⟩⟩
  case round =>
    obtain ⟨i, N, rfl, rfl, hwr, h | h | h⟩ := hrel
    · obtain ⟨rfl, rfl⟩ := h
      obtain rfl := hwr.symm
      go_wp2_with fail
      go_roundw
      case rel => exact ⟨1, lb, by go_num, by first | rfl | go_num | simp, by first | rfl | trivial, Or.inr (Or.inl ⟨rfl, rfl⟩)⟩
      case measure => simp [intOf]
    · obtain ⟨rfl, rfl⟩ := h
      obtain rfl := hwr.symm
      go_wp2_with fail
      go_roundw
      case rel => exact ⟨2, N2, by go_num, by first | rfl | go_num | simp, by first | rfl | trivial, Or.inr (Or.inr ⟨rfl, rfl⟩)⟩
      case measure => simp [intOf]
    · obtain ⟨rfl, rfl⟩ := h
      obtain rfl := hwr.symm
      go_wp2_with fail
      refine (unhide CG).mono ?_
      rintro e w1 ⟨sv1, rfl, own1, b1⟩
      have H1 := hide (And.intro own1 b1)
      clear own1 b1 CG c0 c1
      go_wp2_with fail
      go_loopw [6, 27] (fun v x wr => ∃ (i n : Nat) (xs : List Int), x = .int .i64 (i : Int) ∧ ((i = 0 ∧ n = 0) ∨ (i = 1 ∧ n = lb) ∨ (i = 2 ∧ n = N)) ∧ Hid (wr.ownsRow w.heap.size 5 1 v n (xs.map (Value.int .u8)) ∧ Below w.heap.size w wr ∧ ((i = 0 ∧ xs = []) ∨ (i = 1 ∧ xs = zs) ∨ (i = 2 ∧ xs = zs ++ ys)))) (fun _ x _ => 2 - (intOf x).toNat)
      case atStart => exact ⟨0, 0, [], rfl, Or.inl ⟨rfl, rfl⟩, hide ⟨(unhide H1).1, (unhide H1).2, Or.inl ⟨rfl, rfl⟩⟩⟩
      case round =>
        clear H1
        obtain ⟨i, n, xs, rfl, h, HO⟩ := hrel
        rcases h with h | h | h
        · obtain ⟨rfl, rfl⟩ := h
          obtain ⟨own, bel, hx⟩ := unhide HO
          have hxs : xs = [] := by rcases hx with ⟨e, h⟩ | ⟨e, h⟩ | ⟨e, h⟩ <;> first | exact h | cases e
          subst hxs
          obtain ⟨⟨c0, c1⟩, r0, r1⟩ := unhide HR wr bel
          have H2 := hide (And.intro own (And.intro bel (And.intro r0 r1)))
          have bs := bel.size
          clear own bel r0 r1 hx HO
          have tok1 : True := trivial
          go_wp2_with (first | (at_builtin; have _t := tok1; refine wpl_app rfl (.tmp 31) (.tmp 32) rfl w.heap.size 0 _ [] rfl (unhide H2).1 ab lb cb zs rfl (unhide H2).2.2.1 (by omega) bs ?_; intro v' w' H3; clear tok1))
          go_roundw
          case rel => exact ⟨1, _, _, by go_num, Or.inr (Or.inl ⟨rfl, by omega⟩), hide ⟨(unhide H3).1, (unhide H2).2.1.grown (unhide H3).2.grown bs (fun k e => ((unhide H2).1.lt k e).1), Or.inr (Or.inl ⟨rfl, by simp⟩)⟩⟩
          case measure => simp [intOf]
        · obtain ⟨rfl, hn⟩ := h
          obtain ⟨own, bel, hx⟩ := unhide HO
          have hxs : xs = zs := by rcases hx with ⟨e, h⟩ | ⟨e, h⟩ | ⟨e, h⟩ <;> first | exact h | cases e
          have HXS := hide hxs
          clear hxs
          obtain ⟨⟨c0, c1⟩, r0, r1⟩ := unhide HR wr bel
          have H2 := hide (And.intro own (And.intro bel (And.intro r0 r1)))
          have bs := bel.size
          clear own bel r0 r1 hx HO
          have tok1 : True := trivial
          go_wp2_with (first | (at_builtin; have _t := tok1; refine wpl_app rfl (.tmp 31) (.tmp 32) rfl w.heap.size n _ xs rfl (unhide H2).1 ac lc cc ys rfl (unhide H2).2.2.2 (by have := unhide HN2; omega) bs ?_; intro v' w' H3; clear tok1))
          go_roundw
          case rel => exact ⟨2, _, _, by go_num, Or.inr (Or.inr ⟨rfl, by have := unhide HN2; omega⟩), hide ⟨(unhide H3).1, (unhide H2).2.1.grown (unhide H3).2.grown bs (fun k e => ((unhide H2).1.lt k e).1), Or.inr (Or.inr ⟨rfl, by rw [unhide HXS]⟩)⟩⟩
          case measure => simp [intOf]
        · obtain ⟨rfl, rfl⟩ := h
          obtain ⟨own, bel, hx⟩ := unhide HO
          have hxs : xs = zs ++ ys := by rcases hx with ⟨e, h⟩ | ⟨e, h⟩ | ⟨e, h⟩ <;> first | exact h | cases e
          subst hxs
          have H2 := hide (And.intro own bel)
          clear own bel hx HO
          go_wp2_with fail
          go_ret
          exact ⟨_, rfl, (unhide H2).1, (unhide H2).2⟩
end Go.Proofs.YtmnbfcpkaglniaaGreatDoor

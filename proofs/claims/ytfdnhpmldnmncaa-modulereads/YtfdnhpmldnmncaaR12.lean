/-
  Append of bytes onto a row of the call's own, nil or not, and what stands behind it: Grow of nothing, Concat of two; conditions: the lengths together are below 2^47 and a million.
  A region that draws its order and closes with a store over a cell that it has read: the read may be taken first, since the store waits for it; no conditions.
-/
import Derived.Test.YtfdnhpmldnmncaaR11
import Derived.Deep.AppendLies
import Derived.Lib.AppendZeros
import Derived.Laws.AppendOwnNone
import Derived.Test.YtfdnhpmldnmncaaR00
import Derived.Deep.RegionHeld3
namespace Go.Proofs.Ytfdnhpmldnmncaa
open Go.RowKit

/-- the world behind something that has grown a row -/
structure Grew (w w' : World) (v v' : Value) : Prop where
  grown : w.grownBy w' v.ownBlock
  row : ∀ b, v'.ownBlock = some b → v.ownBlock = some b ∨ w.heap.size ≤ b

theorem Grew.refl (w : World) (v : Value) : Grew w w v v := ⟨World.grownBy.refl _ _, fun _ h => Or.inl h⟩

theorem Grew.trans {w w1 w2 : World} {v v1 v2 : Value} (h : Grew w w1 v v1) (h2 : Grew w1 w2 v1 v2) : Grew w w2 v v2 := by
  have hs := h.grown.size
  refine ⟨⟨h2.grown.os.trans h.grown.os, h2.grown.tape.trans h.grown.tape, h2.grown.output.trans h.grown.output, Nat.le_trans h.grown.size h2.grown.size, fun k hk hn => ?_⟩, fun b hb => ?_⟩
  · rw [h2.grown.block k (by omega) (fun e => ?_), h.grown.block k hk hn]
    rcases h.row k e.symm with h' | h'
    · exact hn h'.symm
    · omega
  · rcases h2.row b hb with h' | h'
    · rcases h.row b h' with h' | h'
      · exact Or.inl h'
      · exact Or.inr h'
    · exact Or.inr (by omega)

theorem Grew.behind {w w1 w2 : World} {v v2 : Value} (hb : Below w.heap.size w w1) (h : Grew w1 w2 v v2) : Grew w w2 v v2 := by
  have hs := hb.size
  refine ⟨⟨h.grown.os.trans hb.os, h.grown.tape.trans hb.tape, h.grown.output.trans hb.output, Nat.le_trans hb.size h.grown.size, fun k hk hn => ?_⟩, fun b e => ?_⟩
  · rw [h.grown.block k (by omega) hn, hb.block k hk]
  · rcases h.row b e with h' | h'
    · exact Or.inl h'
    · exact Or.inr (by omega)

theorem Grew.ahead {w w1 w2 : World} {v v1 : Value} (h : Grew w w1 v v1) (hb : Below w1.heap.size w1 w2) : Grew w w2 v v1 := by
  have hs := h.grown.size
  refine ⟨⟨hb.os.trans h.grown.os, hb.tape.trans h.grown.tape, hb.output.trans h.grown.output, Nat.le_trans h.grown.size hb.size, fun k hk hn => ?_⟩, h.row⟩
  rw [hb.block k (by omega), h.grown.block k hk hn]

theorem Grew.below {w w' : World} {v v' : Value} {base : Nat} {n : Nat} {xs : List Value} (h : Grew w w' v v') (ho : w.ownsRow base 5 1 v n xs) (hb : base ≤ w.heap.size) : Below base w w' :=
  (Below.refl _ _).grown h.grown hb (fun k e => (ho.lt k e).1)

theorem Grew.far {w w' : World} {v v' : Value} (h : Grew w w' v v') {b : Nat} (hb : b < w.heap.size) (hn : some b ≠ v.ownBlock) : w'.heap[b]? = w.heap[b]? := h.grown.block b hb hn

theorem own_below {w w' : World} {base : Nat} {e : TypeId} {size : Nat} {v : Value} {n : Nat} {xs : List Value} (h : w.ownsRow base e size v n xs) (hb : Below w.heap.size w w') : w'.ownsRow base e size v n xs := by
  refine ⟨h.1, ?_⟩
  rcases h.2 with hn | ⟨g, cap, cur, rfl, hbs, hg, rest⟩
  · exact .inl hn
  · exact .inr ⟨g, cap, cur, rfl, hbs, (hb.block g (Array.getElem?_eq_some_iff.1 hg).1).trans hg, rest⟩

theorem run_app (w : World) (ty : TypeId) (base n : Nat) (v : Value) (xs : List Int) (hown : w.ownsRow base 5 1 v n (xs.map (Value.int .u8))) (ao : Option Addr) (m c : Nat) (rs : List Int) (hr : Row8 w ao m c rs) (hbytes : n + m ≤ 140737489403904) (hbase : base ≤ w.heap.size) :
    ∃ v' w', (Builtin.append_ #[22, 22] ty #[v, .slice ao m c]).run Try.prog w = .ok v' w' ∧ w'.ownsRow base 5 1 v' (n + m) ((xs ++ rs).map (Value.int .u8)) ∧ Grew w w' v v' := by
  obtain ⟨i0, hi, hz0, hz1, hz2⟩ := info_parts info5
  have hl := hr.length
  cases ao with
  | none =>
    obtain ⟨rfl, rfl⟩ := hr.none rfl
    have hrs : rs = [] := List.eq_nil_of_length_eq_zero hl
    subst hrs
    exact ⟨v, w, run_append_owned_none (P := Try.prog) (w := w) base 22 ty 5 i0 1 Try.underlying22 hi v n _ hown, by simpa using hown, Grew.refl _ _⟩
  | some ad =>
    obtain ⟨v', w', h1, h2, h3, h5⟩ := run_own8 w ty base n v _ hown ad m c rs hl (hr.cells ad rfl) hbytes hbase
    refine ⟨v', w', h1, by rw [List.map_append]; exact h2, h3, fun b hb => ?_⟩
    rcases h5 with e | e
    · exact Or.inl (by rw [← e]; exact hb)
    · rw [hb] at e
      exact Or.inr (by rw [Option.some.inj e]; exact Nat.le_refl _)

/-- append, at a plain region's list -/
theorem wpl_app {w : World} {ops : Array Oper} {rest : List Oper} {o : Oper} {a : Act} {Q : Exit → Act → World → Prop} (hgd : o.guard = none) (sl x : Operand)
    (ho : o.op = .call { callee := .builtin .append, args := #[sl, x], argTypes := #[22, 22] })
    (base n : Nat) (v : Value) (xs : List Int) (hs : a.eval sl = v) (hown : w.ownsRow base 5 1 v n (xs.map (Value.int .u8)))
    (ao : Option Addr) (m c : Nat) (rs : List Int) (hx : a.eval x = .slice ao m c) (hr : Row8 w ao m c rs)
    (hbytes : n + m ≤ 140737489403904) (hbase : base ≤ w.heap.size)
    (h : ∀ v' w', Hid (w'.ownsRow base 5 1 v' (n + m) ((xs ++ rs).map (Value.int .u8)) ∧ Grew w w' v v') → wpList Try.prog ops Q rest (a.put o.dst v') w') :
    wpList Try.prog ops Q (o :: rest) a w := by
  refine wpList_plain hgd fun K hK => ?_
  obtain ⟨v', w', hrun, h1, h2⟩ := run_app w o.type base n v xs hown ao m c rs hr hbytes hbase
  unfold Oper.wp
  simp only [execOp, ho, resolve, invoke, builtin, Sem.run_bind, Sem.run_pure, Result.andThen_ok, List.map_toArray, List.map_cons, List.map_nil, hs, hx, hrun]
  exact hK _ _ (h v' w' ⟨h1, h2⟩)

/-- append, at a step of a region that draws -/
theorem step_app {w : World} {ops : Array Oper} {o : Oper} {a : Act} {K : Act → World → Prop} {Q : Exit → Act → World → Prop} {E : Prop} (hgd : o.guard = none) (sl x : Operand)
    (ho : o.op = .call { callee := .builtin .append, args := #[sl, x], argTypes := #[22, 22] })
    (base n : Nat) (v : Value) (xs : List Int) (hs : a.eval sl = v) (hown : w.ownsRow base 5 1 v n (xs.map (Value.int .u8)))
    (ao : Option Addr) (m c : Nat) (rs : List Int) (hx : a.eval x = .slice ao m c) (hr : Row8 w ao m c rs)
    (hbytes : n + m ≤ 140737489403904) (hbase : base ≤ w.heap.size)
    (h : ∀ v' w', Hid (w'.ownsRow base 5 1 v' (n + m) ((xs ++ rs).map (Value.int .u8)) ∧ Grew w w' v v') → K (a.put o.dst v') w') :
    if Region.wanted o (yielded ops a.tmps) = true then Oper.wp Try.prog o a w K Q else E := by
  rw [if_pos (show Region.wanted o (yielded ops a.tmps) = true by simp [Region.wanted, hgd])]
  obtain ⟨v', w', hrun, h1, h2⟩ := run_app w o.type base n v xs hown ao m c rs hr hbytes hbase
  unfold Oper.wp
  simp only [execOp, ho, resolve, invoke, builtin, Sem.run_bind, Sem.run_pure, Result.andThen_ok, List.map_toArray, List.map_cons, List.map_nil, hs, hx, hrun]
  exact h v' w' ⟨h1, h2⟩

/-- one byte that was just laid -/
theorem row_one {w : World} {g : Nat} {x : Int} (h : w.heap[g]? = some (.cells #[.int .u8 x] 5 (0, 0))) (h0 : 0 ≤ x) (h1 : x ≤ 255) : Row8 w (some ⟨g, 0, none⟩) 1 1 [x] := by
  refine ⟨rfl, (fun e => by cases e), fun ad ha j u hj => ?_, by intro n hn; simp at hn; omega, Nat.le_refl _⟩
  cases ha
  exact World.news_of_block h j u (by simpa using hj)

/-- append(nothing, make([]byte, n)...) -/
theorem wpl_zeros {w : World} {ops : Array Oper} {rest : List Oper} {o : Oper} {a : Act} {Q : Exit → Act → World → Prop} (hgd : o.guard = none) (sl x : Operand)
    (ho : o.op = .call { callee := .builtin .append, args := #[sl, x], argTypes := #[22, 3] })
    (n : Nat) (hs : a.eval sl = .slice none 0 0) (hx : a.eval x = .int .i64 (n : Int)) (hn : 0 < n) (hb : n ≤ 140737489403904)
    (h : ∀ cap w', n ≤ cap → cap ≤ maxLen → Hid (w'.ownsRow w.heap.size 5 1 (.slice (some ⟨w.heap.size, 0, none⟩) 0 cap) 0 [] ∧ Below w.heap.size w w') → wpList Try.prog ops Q rest (a.put o.dst (.slice (some ⟨w.heap.size, 0, none⟩) n cap)) w') :
    wpList Try.prog ops Q (o :: rest) a w := by
  obtain ⟨i0, hi, hz0, hz1, hz2⟩ := info_parts info5
  refine wpList_plain hgd fun K hK => ?_
  have hrun := Lib.run_append_nil_zeros (P := Try.prog) w 22 3 o.type 5 i0 (.int .u8 0) .i64 .i64 Try.underlying22 Try.underlying3 hi hz0 n hn (by omega) (by omega) (by rw [hz2]; omega)
  unfold Oper.wp
  simp only [execOp, ho, resolve, invoke, builtin, Sem.run_bind, Sem.run_pure, Result.andThen_ok, List.map_toArray, List.map_cons, List.map_nil, hs, hx, hrun]
  have hge := grownCap_ge w n 0 5
  have hle := grownCap_le_maxLen w n 0 5 (by unfold maxLen; omega)
  refine hK _ _ (h _ _ hge hle ⟨?_, ((Below.refl _ _).drew).alloc (Nat.le_refl _) _⟩)
  refine World.ownsRow_made (base := w.heap.size) w.drew _ _ (Nat.le_refl _) hle ?_
  have hz : ∀ k, (Builtin.zeroCells (Value.int .u8 0).cells k).size = k := fun k => by
    rw [size_zeroCells]
    show k * 1 = k
    omega
  rw [Array.size_append, hz, hz]
  omega

set_option maxRecDepth 100000 in
set_option maxHeartbeats 400000 in
theorem grow_nil (n : Nat) (w : World) (hn : n ≤ 140737489403904) :
    Calls Try.prog 80 #[.slice none 0 0, .int .i64 (n : Int)] w fun e w' => ∃ sv, e = .returned sv ∧ w'.ownsRow w.heap.size 5 1 sv 0 [] ∧ Below w.heap.size w w' := by
  by_cases h0 : n = 0
  · subst h0
    go_enter Try.func80, Try.ntmps80
    go_wp2_with fail
    go_ret
    exact ⟨_, rfl, World.ownsRow_nil _ _ _ _, Below.refl _ _⟩
  · have n0 : (0 : Int) < (n : Int) := by omega
    have n0' : 0 < n := by omega
    have n1 : ¬ (n : Int) < 0 := by omega
    go_enter Try.func80, Try.ntmps80
    go_wp2_with (first | (at_builtin; refine wpl_zeros rfl (.tmp 20) (.tmp 21) rfl n rfl rfl n0' hn ?_; intro cap w1 hc1 hc2 H1; have c1 : (0 : Int) ≤ (cap : Int) := by omega))
    go_ret
    exact ⟨_, rfl, (unhide H1).1, (unhide H1).2⟩

theorem two_cell {w : World} {g : Nat} {x0 x1 : Value} {T : TypeId} (h : w.heap[g]? = some (.cells #[x0, x1] T (0, 0))) : w.cell? ⟨g, 0, none⟩ = some x0 ∧ w.cell? ⟨g, 1, none⟩ = some x1 :=
  ⟨by rw [cell_of_row w g 0 _ _ (0, 0) h]; rfl, by rw [cell_of_row w g 1 _ _ (0, 0) h]; rfl⟩

set_option maxRecDepth 100000 in
set_option maxHeartbeats 800000 in
theorem concat_two (gb : Nat) (T : TypeId) (ab ac : Option Addr) (lb cb lc cc : Nat) (zs ys : List Int) (w : World) (hrow : w.heap[gb]? = some (.cells #[.slice ab lb cb, .slice ac lc cc] T (0, 0))) (hz : Row8 w ab lb cb zs) (hy : Row8 w ac lc cc ys) (hb : lb + lc ≤ 140737489403904) :
    Calls Try.prog 75 #[.slice (some ⟨gb, 0, none⟩) 2 2] w fun e w' => ∃ sv, e = .returned sv ∧ w'.ownsRow w.heap.size 5 1 sv (lb + lc) ((zs ++ ys).map (Value.int .u8)) ∧ Below w.heap.size w w' := by
  have HR : Hid (∀ u, Below w.heap.size w u → (u.cell? ⟨gb, 0, none⟩ = some (.slice ab lb cb) ∧ u.cell? ⟨gb, 1, none⟩ = some (.slice ac lc cc)) ∧ Row8 u ab lb cb zs ∧ Row8 u ac lc cc ys) := hide (fun u hu => ⟨two_cell ((hu.block gb ((Array.getElem?_eq_some_iff.1 hrow).1)).trans hrow), hz.later hu, hy.later hu⟩)
  have CG := hide (grow_nil (lb + lc) w hb)
  obtain ⟨N2, hN2⟩ : ∃ N2, lb + lc = N2 := ⟨_, rfl⟩
  rw [hN2] at CG
  have HN2 := hide hN2
  have l1 : lb ≤ 140737489403904 := by omega
  have l2 : N2 ≤ 140737489403904 := by omega
  have l3 : (lb : Int) + (lc : Int) = (N2 : Int) := by omega
  have l4 : IntKind.i64.wrap (N2 : Int) = (N2 : Int) := by rw [IntKind.wrap_i64]; omega
  have l5 : IntKind.i64.wrap (lb : Int) = (lb : Int) := by rw [IntKind.wrap_i64]; omega
  have l6 : ¬ (N2 : Int) < 0 := by omega
  have l7 : ¬ (lb : Int) < 0 := by omega
  obtain ⟨⟨c0, c1⟩, _⟩ := unhide HR w (Below.refl _ _)
  rw [hN2]
  clear hrow hz hy hb hN2
  go_enter Try.func75, Try.ntmps75
  go_wp2_with fail
  go_loopw [3, 11] (fun y x wr => ∃ i N : Nat, x = .int .i64 (i : Int) ∧ y = .int .i64 (N : Int) ∧ wr = w ∧ ((i = 0 ∧ N = 0) ∨ (i = 1 ∧ N = lb) ∨ (i = 2 ∧ N = N2))) (fun _ x _ => 2 - (intOf x).toNat)
  case atStart => exact ⟨0, 0, rfl, rfl, rfl, Or.inl ⟨rfl, rfl⟩⟩
  case round =>
    obtain ⟨i, N, rfl, rfl, hwr, h | h | h⟩ := hrel
    · obtain ⟨rfl, rfl⟩ := h
      obtain rfl := hwr.symm
      go_wp2_with fail
      go_roundw
      case rel => exact ⟨1, lb, by go_num, by first | rfl | go_num | simp, by first | rfl | trivial, Or.inr (Or.inl ⟨rfl, rfl⟩)⟩
      case measure => simp [intOf]
    · obtain ⟨rfl, rfl⟩ := h
      obtain rfl := hwr.symm
      go_wp2_with fail
      go_roundw
      case rel => exact ⟨2, N2, by go_num, by first | rfl | go_num | simp, by first | rfl | trivial, Or.inr (Or.inr ⟨rfl, rfl⟩)⟩
      case measure => simp [intOf]
    · obtain ⟨rfl, rfl⟩ := h
      obtain rfl := hwr.symm
      go_wp2_with fail
      refine (unhide CG).mono ?_
      rintro e w1 ⟨sv1, rfl, own1, b1⟩
      have H1 := hide (And.intro own1 b1)
      clear own1 b1 CG c0 c1
      go_wp2_with fail
      go_loopw [6, 27] (fun v x wr => ∃ (i n : Nat) (xs : List Int), x = .int .i64 (i : Int) ∧ ((i = 0 ∧ n = 0) ∨ (i = 1 ∧ n = lb) ∨ (i = 2 ∧ n = N)) ∧ Hid (wr.ownsRow w.heap.size 5 1 v n (xs.map (Value.int .u8)) ∧ Below w.heap.size w wr ∧ ((i = 0 ∧ xs = []) ∨ (i = 1 ∧ xs = zs) ∨ (i = 2 ∧ xs = zs ++ ys)))) (fun _ x _ => 2 - (intOf x).toNat)
      case atStart => exact ⟨0, 0, [], rfl, Or.inl ⟨rfl, rfl⟩, hide ⟨(unhide H1).1, (unhide H1).2, Or.inl ⟨rfl, rfl⟩⟩⟩
      case round =>
        clear H1
        obtain ⟨i, n, xs, rfl, h, HO⟩ := hrel
        rcases h with h | h | h
        · obtain ⟨rfl, rfl⟩ := h
          obtain ⟨own, bel, hx⟩ := unhide HO
          have hxs : xs = [] := by rcases hx with ⟨e, h⟩ | ⟨e, h⟩ | ⟨e, h⟩ <;> first | exact h | cases e
          subst hxs
          obtain ⟨⟨c0, c1⟩, r0, r1⟩ := unhide HR wr bel
          have H2 := hide (And.intro own (And.intro bel (And.intro r0 r1)))
          have bs := bel.size
          clear own bel r0 r1 hx HO
          have tok1 : True := trivial
          go_wp2_with (first | (at_builtin; have _t := tok1; refine wpl_app rfl (.tmp 31) (.tmp 32) rfl w.heap.size 0 _ [] rfl (unhide H2).1 ab lb cb zs rfl (unhide H2).2.2.1 (by omega) bs ?_; intro v' w' H3; clear tok1))
          go_roundw
          case rel => exact ⟨1, _, _, by go_num, Or.inr (Or.inl ⟨rfl, by omega⟩), hide ⟨(unhide H3).1, (unhide H2).2.1.grown (unhide H3).2.grown bs (fun k e => ((unhide H2).1.lt k e).1), Or.inr (Or.inl ⟨rfl, by simp⟩)⟩⟩
          case measure => simp [intOf]
        · obtain ⟨rfl, hn⟩ := h
          obtain ⟨own, bel, hx⟩ := unhide HO
          have hxs : xs = zs := by rcases hx with ⟨e, h⟩ | ⟨e, h⟩ | ⟨e, h⟩ <;> first | exact h | cases e
          have HXS := hide hxs
          clear hxs
          obtain ⟨⟨c0, c1⟩, r0, r1⟩ := unhide HR wr bel
          have H2 := hide (And.intro own (And.intro bel (And.intro r0 r1)))
          have bs := bel.size
          clear own bel r0 r1 hx HO
          have tok1 : True := trivial
          go_wp2_with (first | (at_builtin; have _t := tok1; refine wpl_app rfl (.tmp 31) (.tmp 32) rfl w.heap.size n _ xs rfl (unhide H2).1 ac lc cc ys rfl (unhide H2).2.2.2 (by have := unhide HN2; omega) bs ?_; intro v' w' H3; clear tok1))
          go_roundw
          case rel => exact ⟨2, _, _, by go_num, Or.inr (Or.inr ⟨rfl, by have := unhide HN2; omega⟩), hide ⟨(unhide H3).1, (unhide H2).2.1.grown (unhide H3).2.grown bs (fun k e => ((unhide H2).1.lt k e).1), Or.inr (Or.inr ⟨rfl, by rw [unhide HXS]⟩)⟩⟩
          case measure => simp [intOf]
        · obtain ⟨rfl, rfl⟩ := h
          obtain ⟨own, bel, hx⟩ := unhide HO
          have hxs : xs = zs ++ ys := by rcases hx with ⟨e, h⟩ | ⟨e, h⟩ | ⟨e, h⟩ <;> first | exact h | cases e
          subst hxs
          have H2 := hide (And.intro own bel)
          clear own bel hx HO
          go_wp2_with fail
          go_ret
          exact ⟨_, rfl, (unhide H2).1, (unhide H2).2⟩
end Go.Proofs.Ytfdnhpmldnmncaa

namespace Go.Proofs.Ytfdnhpmldnmncaa
open Go.RowKit

section
variable {P : Program} {ops : Array Oper} {Q : Exit → Act → World → Prop} {md : Region.Mode} {S : World → Prop} {z : Nat}

/-- whatever order is picked from here on, S holding behind each operation but number z -/
def Till (P : Program) (md : Region.Mode) (ops : Array Oper) (Q : Exit → Act → World → Prop) (S : World → Prop) (z : Nat) : Nat → Array Bool → Act → World → Prop
  | 0, listed, a, w => Region.ready md ops listed = [] ∧ Q .normal a w
  | f + 1, listed, a, w => (Region.ready md ops listed = [] → Q .normal a w) ∧ ∀ i ∈ Region.ready md ops listed, wpOp P ops Q i (fun a' w' => (i = z ∨ S w') ∧ Till P md ops Q S z f (listed.setIfInBounds i true) a' w') a w

theorem Till.any : ∀ (f : Nat) (listed : Array Bool) (a : Act) (w : World), Till P md ops Q S z f listed a w → wpAny P md ops Q f listed a w
  | 0, _, _, _, h => h
  | f + 1, _, _, _, h => ⟨h.1, fun i hi => wpOp_mono (fun a' w' h' => Till.any f _ a' w' h'.2) (h.2 i hi)⟩

theorem Till.first {i : Nat} {oi oz : Oper} {v : Value} (hi : ops[i]? = some oi) (hz : ops[z]? = some oz) (hwait : ∃ e ∈ oz.after, Region.binds md e = true ∧ e.on = i)
    (hsel : ∀ (j : Nat) (o : Oper) cs b, ops[j]? = some o → o.op ≠ .select cs b) (hQ : ∀ c a w, Q (.panic c) (a.put oi.dst v) w → Q (.panic c) a w) :
    ∀ (f : Nat) (listed : Array Bool) (a : Act) (w : World),
      (∀ j oj, ops[j]? = some oj → j ≠ i → listed.getD j true = false → (∀ e ∈ oj.after, Region.binds md e = true → e.on ≠ i) → oi.apart ops oj = true) →
      i ∈ Region.ready md ops listed → YieldsIf P ops S oi v a → S w →
      Till P md ops Q S z f (listed.setIfInBounds i true) (a.put oi.dst v) w → Till P md ops Q S z (f + 1) listed a w := by
  intro f
  induction f with
  | zero =>
    intro listed a w _ hr hy hS H
    refine ⟨fun h => (by rw [h] at hr; cases hr), fun j hj => ?_⟩
    by_cases e : j = i
    · rw [e]
      exact hy.wpOp hi hS ⟨Or.inr hS, H⟩
    · exact absurd (ready_mono hj e) (by rw [H.1]; simp)
  | succ f ih =>
    intro listed a w hfree hr hy hS H
    refine ⟨fun h => (by rw [h] at hr; cases hr), fun j hj => ?_⟩
    by_cases e : j = i
    · rw [e]
      exact hy.wpOp hi hS ⟨Or.inr hS, H⟩
    · obtain ⟨hun, oj, hoj, hall⟩ := mem_ready.1 hj
      have hi0 := (mem_ready.1 hr).1
      -- nobody who may come up now waits for number i
      have hnot : ∀ x ∈ oj.after, Region.binds md x = true → x.on ≠ i := fun x hx hb he => by
        have h1 := hall x hx hb
        rw [he] at h1
        rcases Nat.lt_or_ge i listed.size with hl | hl
        · simp [hl] at hi0 h1
          rw [hi0] at h1
          cases h1
        · simp [Array.getElem?_eq_none hl] at h1
      have hjz : j ≠ z := fun he => by
        obtain ⟨x, hx, hb, hon⟩ := hwait
        rw [he] at hoj
        rw [hoj] at hz
        cases hz
        exact hnot x hx hb hon
      have h2 := wpOp_putIf hoj (hfree j oj hoj e hun hnot) (fun cs b => hsel i oi cs b hi) (fun cs b => hsel j oj cs b hoj) hQ hy (H.2 j (ready_mono hj e))
      refine wpOp_mono (fun a' w' h3 => ?_) h2
      obtain ⟨hy', hS', hT⟩ := h3
      have hSw : S w' := hS'.resolve_left hjz
      refine ⟨Or.inr hSw, ih (listed.setIfInBounds j true) a' w' (fun k ok hk hki hu hno => hfree k ok hk hki ?_ hno) (ready_mono hr (Ne.symm e)) hy' hSw ?_⟩
      · by_cases hjk : j = k
        · rw [← hjk]; exact hun
        · rw [getD_set_ne true hjk] at hu; exact hu
      · rw [Array.setIfInBounds_comm _ _ e]
        exact hT

/-- number i first -/
theorem till_take {f : Nat} {listed : Array Bool} {a : Act} {w : World} (i : Nat) {oi oz : Oper} {v : Value} (d : Option Tmp) (hi : ops[i]? = some oi) (hd : oi.dst = d) (hz : ops[z]? = some oz) (hwait : (oz.after.any fun e => Region.binds md e && e.on == i) = true)
    (hs : Region.noSelect ops = true) (hf : Region.free md ops listed i = true) (hr : (Region.ready md ops listed).contains i = true)
    (hQ : ∀ c a w, Q (.panic c) (a.put d v) w → Q (.panic c) a w) (hy : YieldsIf P ops S oi v a) (hS : S w)
    (h : Till P md ops Q S z f (listed.setIfInBounds i true) (a.put d v) w) : Till P md ops Q S z (f + 1) listed a w := by
  subst hd
  refine Till.first hi hz ?_ (Region.noSelect_spec hs) hQ f listed a w (Region.free_spec hi hf) (by simpa using hr) hy hS h
  rw [Array.any_eq_true] at hwait
  obtain ⟨k, hk, hx⟩ := hwait
  rw [Bool.and_eq_true, beq_iff_eq] at hx
  exact ⟨_, Array.getElem_mem hk, hx.1, hx.2⟩

/-- one alone may come up -/
theorem till_one {f : Nat} {listed : Array Bool} {a : Act} {w : World} (i : Nat) {o : Oper} (hr : Region.ready md ops listed = [i]) (ho : ops[i]? = some o)
    (h : ∀ K' : Act → World → Prop, Shut (∀ a w, (i = z ∨ S w) → Till P md ops Q S z f (listed.setIfInBounds i true) a w → K' a w) → if Region.wanted o (yielded ops a.tmps) = true then Oper.wp P o a w K' Q else K' (a.put o.dst undef) w) :
    Till P md ops Q S z (f + 1) listed a w := by
  refine ⟨fun e => (by rw [e] at hr; cases hr), fun j hj => ?_⟩
  rw [hr, List.mem_singleton] at hj
  subst hj
  exact wpOp_step ho (fun K' hK => h K' (fun a w hS hT => hK a w ⟨hS, hT⟩))

/-- two may come up -/
theorem till_two {f : Nat} {listed : Array Bool} {a : Act} {w : World} (i j : Nat) {oi oj : Oper} (hr : Region.ready md ops listed = [i, j]) (hi : ops[i]? = some oi) (hj : ops[j]? = some oj)
    (h1 : ∀ K' : Act → World → Prop, Shut (∀ a w, (i = z ∨ S w) → Till P md ops Q S z f (listed.setIfInBounds i true) a w → K' a w) → if Region.wanted oi (yielded ops a.tmps) = true then Oper.wp P oi a w K' Q else K' (a.put oi.dst undef) w)
    (h2 : ∀ K' : Act → World → Prop, Shut (∀ a w, (j = z ∨ S w) → Till P md ops Q S z f (listed.setIfInBounds j true) a w → K' a w) → if Region.wanted oj (yielded ops a.tmps) = true then Oper.wp P oj a w K' Q else K' (a.put oj.dst undef) w) :
    Till P md ops Q S z (f + 1) listed a w := by
  refine ⟨fun e => (by rw [e] at hr; cases hr), fun k hk => ?_⟩
  rw [hr, List.mem_cons, List.mem_singleton] at hk
  rcases hk with e | e
  · rw [e]
    exact wpOp_step hi (fun K' hK => h1 K' (fun a w hS hT => hK a w ⟨hS, hT⟩))
  · rw [e]
    exact wpOp_step hj (fun K' hK => h2 K' (fun a w hS hT => hK a w ⟨hS, hT⟩))

theorem till_done {listed : Array Bool} {a : Act} {w : World} (hr : Region.ready md ops listed = []) (h : Q .normal a w) : ∀ f, Till P md ops Q S z f listed a w
  | 0 => ⟨hr, h⟩
  | _ + 1 => ⟨fun _ => h, by rw [hr]; simp⟩

theorem till_begin {id : Nat} {a : Act} {w : World} (z : Nat) (hm : P.follows .mixedOrders = true) (h : Till P .any ops Q S z ops.size (Array.replicate ops.size false) a w.drew) : (Code.region id ops true).wp P Q a w :=
  wp_region_any hm (Till.any _ _ _ _ h)
end
end Go.Proofs.Ytfdnhpmldnmncaa

/-
  Rows of the call's own: append of one element, of some bytes; no conditions.
-/
import Derived.Test.YtnflbgejjgjpcaaDoorRows
import Derived.Test.YtnflbgejjgjpcaaDoorHid
import Derived.Test.YtnflbgejjgjpcaaDoorWTill
import Derived.WalkKit
import Derived.WalkSpells
import Derived.WalkSmall
import Derived.Below
import Derived.OwnWalk
import Derived.Laws.Rows
import Derived.Laws.BytesArg
import Derived.Laws.Strings
import Derived.Maps.AppendAt
import Derived.Deep.CutRange
import Derived.Deep.AppendLies
import Derived.ArgAppend
import Derived.Lib.SlBytesConst
import Derived.Deep.QuietTactic
import Derived.BigQuiet
namespace Go.Proofs.YtnflbgejjgjpcaaDoor
open Go.RowKit
set_option linter.unusedVariables false
set_option linter.unusedSimpArgs false

theorem own_later {w w' : World} {base : Nat} {e : TypeId} {size : Nat} {v : Value} {n : Nat} {xs : List Value} (h : w.ownsRow base e size v n xs) (hb : ∀ b, b < w.heap.size → v.ownBlock = some b → w'.heap[b]? = w.heap[b]?) : w'.ownsRow base e size v n xs := by
  refine ⟨h.1, ?_⟩
  rcases h.2 with hn | ⟨g, cap, cur, rfl, hbs, hg, rest⟩
  · exact .inl hn
  · exact .inr ⟨g, cap, cur, rfl, hbs, (hb g (Array.getElem?_eq_some_iff.1 hg).1 rfl).trans hg, rest⟩

theorem slice_form {w : World} {base : Nat} {e : TypeId} {size : Nat} {v : Value} {n : Nat} {xs : List Value} (h : w.ownsRow base e size v n xs) : ∃ ao cap, v = .slice ao n cap ∧ (ao = none → n = 0 ∧ cap = 0) ∧ n ≤ cap ∧ cap ≤ maxLen ∧ ∀ a, ao = some a → v.ownBlock = some a.block ∧ a = ⟨a.block, 0, none⟩ := by
  rcases h.2 with ⟨rfl, rfl⟩ | ⟨g, cap, cur, rfl, hb, hg, h1, h2, _⟩
  · exact ⟨none, 0, rfl, fun _ => ⟨rfl, rfl⟩, Nat.le_refl _, by unfold maxLen; omega, fun a h => by cases h⟩
  · exact ⟨some ⟨g, 0, none⟩, cap, rfl, (fun e => by cases e), h1, h2, fun a h => by cases h; exact ⟨rfl, rfl⟩⟩

/-- append of one element that was just laid -/
theorem wpl_oneG {P : Program} {w : World} {ops : Array Oper} {rest : List Oper} {o : Oper} {a : Act} {Q : Exit → Act → World → Prop} (hgd : o.guard = none) (sl x : Operand) (T e : TypeId) (i0 : TypeInfo) (z : Value) (size bytes : Nat)
    (hu : P.underlying T = some (.slice e)) (hi : P.info? e = some i0) (hz : i0.zero = some z) (hs1 : i0.size = size) (hby : i0.bytes = bytes) (hzs : z.cells.size = size) (hsz : 0 < size)
    (ho : o.op = .call { callee := .builtin .append, args := #[sl, x], argTypes := #[T, T] })
    (base n : Nat) (v : Value) (xs : List Value) (A : List Value) (hA : A.length = size) (h1 : ∀ u ∈ A, u.oneCell' = true) (hs : a.eval sl = v) (hown : w.ownsRow base e size v n xs)
    (hx : a.eval x = .slice (some ⟨w.heap.size, 0, none⟩) 1 1) (hn : n + 1 ≤ maxLen) (hbytes : (n + 1) * bytes ≤ 140737488355328) (hbase : base ≤ w.heap.size)
    (h : ∀ v' w', Hid (w'.ownsRow base e size v' (n + 1) (xs ++ A) ∧ w.grownBy w' v.ownBlock ∧ ∀ b, v'.ownBlock = some b → v.ownBlock = some b ∨ w.heap.size ≤ b) → wpList P ops Q rest (a.put o.dst v') w') :
    wpList P ops Q (o :: rest) a (w.alloc (.cells A.toArray e)) := by
  refine wpList_plain hgd fun K hK => ?_
  have hb : Below w.heap.size w (w.alloc (.cells A.toArray e)) := (Below.refl _ _).alloc (Nat.le_refl _) _
  have hnew := heap_alloc_new w (.cells A.toArray e)
  have hz1 : (w.alloc (.cells A.toArray e)).heap.size = w.heap.size + 1 := by simp
  obtain ⟨v', w', hrun, r1, r2, _, r4⟩ := run_append_own_at (P := P) (w.alloc (.cells A.toArray e)) base T o.type e i0 z size bytes hu hi hz hs1 hby hzs hsz v n xs (hown.alloc _) ⟨w.heap.size, 0, none⟩ 1 1 A (by omega) (fun j u hj => World.news_of_block hnew j u (by simpa using hj)) h1 hn hbytes (by omega)
  unfold Oper.wp
  simp only [execOp, ho, resolve, invoke, builtin, Sem.run_bind, Sem.run_pure, Result.andThen_ok, List.map_toArray, List.map_cons, List.map_nil, hs, hx, hrun]
  refine hK _ _ (h v' w' ⟨r1, ⟨r2.os, r2.tape, r2.output, by have := r2.size; omega, fun k hk hne => (r2.block k (by omega) hne).trans (heap_alloc_old w _ hk)⟩, fun b hb' => ?_⟩)
  rcases r4 with e' | e'
  · exact Or.inl (by rw [← e']; exact hb')
  · rw [hb'] at e'
    exact Or.inr (by rw [Option.some.inj e', hz1]; omega)

theorem info5q : (Tryd.prog.info? 5).map (fun i => (i.zero, i.size, i.bytes)) = some (some (.int .u8 0), 1, 1) := by kernel_rfl

/-- a row of bytes: the call's own, or a constant's, full -/
def QRow (w : World) (base : Nat) (v : Value) (n : Nat) (xs : List Value) : Prop :=
  w.ownsRow base 5 1 v n xs ∨ ∃ b, v = .slice (some ⟨b, 0, none⟩) n n ∧ xs.length = n ∧ b < w.heap.size ∧ base ≤ b ∧ ∀ j u, xs[j]? = some u → w.cell? ⟨b, j, none⟩ = some u

theorem QRow.later {w u : World} {base : Nat} {v : Value} {n : Nat} {xs : List Value} (h : QRow w base v n xs) (hu : Below w.heap.size w u) : QRow u base v n xs := by
  rcases h with h | ⟨b, h1, h2, h3, h4, h5⟩
  · exact Or.inl (own_later h (fun b hb _ => hu.block b hb))
  · exact Or.inr ⟨b, h1, h2, Nat.lt_of_lt_of_le h3 hu.size, h4, fun j x hx => cell_later hu (h5 j x hx)⟩

theorem QRow.form {w : World} {base : Nat} {v : Value} {n : Nat} {xs : List Value} (h : QRow w base v n xs) : ∃ ao cap, v = .slice ao n cap := by
  rcases h with h | ⟨b, h1, _⟩
  · obtain ⟨ao, cap, e, _⟩ := slice_form h
    exact ⟨ao, cap, e⟩
  · exact ⟨_, _, h1⟩

theorem run_few {w : World} (ty : TypeId) (base n c : Nat) (v : Value) (xs : List Value) (A : List Value) (hA : A.length = c) (h1 : ∀ u ∈ A, u.oneCell' = true) (hown : QRow w base v n xs) (hc : 0 < c) (hn : n + c ≤ 140737488355328) (hbase : base ≤ w.heap.size) (b : Nat) (hb : w.heap[b]? = some (.cells A.toArray 5 (0, 0))) :
    ∃ v' w', (Builtin.append_ #[44, 44] ty #[v, .slice (some ⟨b, 0, none⟩) c c]).run Tryd.prog w = .ok v' w' ∧ w'.ownsRow base 5 1 v' (n + c) (xs ++ A) ∧ Below base w w' := by
  obtain ⟨i0, hi, hz0, hz1, hz2⟩ := info_parts info5q
  have hnews : ∀ j u, A[j]? = some u → w.cell? ((⟨b, 0, none⟩ : Addr).add j) = some u := fun j u hj => World.news_of_block hb j u (by simpa using hj)
  rcases hown with hown | ⟨q, rfl, hxl, hq, hbq, hcell⟩
  · obtain ⟨v', w', hrun, r1, r2, _, r4⟩ := run_append_own_at (P := Tryd.prog) w base 44 ty 5 i0 (.int .u8 0) 1 1 Tryd.underlying44 hi hz0 hz1 hz2 rfl (by omega) v n xs hown ⟨b, 0, none⟩ c c A (by omega) hnews h1 (by unfold maxLen; omega) (by omega) hbase
    exact ⟨v', w', hrun, r1, (Below.refl _ _).grown r2 hbase (fun k e => (hown.lt k e).1)⟩
  · obtain ⟨v', w', hrun, own, gr⟩ := run_append_arg_grows (P := Tryd.prog) w 44 ty 5 i0 (.int .u8 0) 1 1 Tryd.underlying44 hi hz0 hz1 hz2 rfl (by omega) ⟨q, 0, none⟩ n n xs (by omega) (fun j u hu => by
      have hp : (⟨q, 0, none⟩ : Addr).add j = ⟨q, j, none⟩ := by unfold Addr.add; split <;> simp_all
      rw [hp]
      exact hcell j u hu) ⟨b, 0, none⟩ c c A (by omega) hnews (by omega) (by unfold maxLen; omega) (by omega)
    refine ⟨v', w', hrun, ⟨own.1, ?_⟩, ⟨gr.os, gr.tape, gr.output, gr.size, fun k hk => gr.block k (by omega) (by simp)⟩⟩
    rcases own.2 with h | ⟨g, cap, cur, e1, hbg, rest⟩
    · exact .inl h
    · exact .inr ⟨g, cap, cur, e1, by omega, rest⟩

/-- append of some bytes that were just laid -/
theorem wpl_fewB {w : World} {ops : Array Oper} {rest : List Oper} {o : Oper} {a : Act} {Q : Exit → Act → World → Prop} (hgd : o.guard = none) (sl x : Operand)
    (ho : o.op = .call { callee := .builtin .append, args := #[sl, x], argTypes := #[44, 44] })
    (base n c : Nat) (v : Value) (xs : List Value) (A : List Value) (hA : A.length = c) (h1 : ∀ u ∈ A, u.oneCell' = true) (hs : a.eval sl = v) (hown : QRow w base v n xs) (hc : 0 < c)
    (hx : a.eval x = .slice (some ⟨w.heap.size, 0, none⟩) c c) (hn : n + c ≤ 140737488355328) (hbase : base ≤ w.heap.size)
    (h : ∀ v' w', Hid (w'.ownsRow base 5 1 v' (n + c) (xs ++ A) ∧ Below base w w') → wpList Tryd.prog ops Q rest (a.put o.dst v') w') :
    wpList Tryd.prog ops Q (o :: rest) a (w.alloc (.cells A.toArray 5)) := by
  refine wpList_plain hgd fun K hK => ?_
  have hb0 : Below w.heap.size w (w.alloc (.cells A.toArray 5)) := (Below.refl _ _).alloc (Nat.le_refl _) _
  obtain ⟨v', w', hrun, r1, r2⟩ := run_few o.type base n c v xs A hA h1 (hown.later hb0) hc hn (Nat.le_trans hbase hb0.size) w.heap.size (heap_alloc_new w _)
  unfold Oper.wp
  simp only [execOp, ho, resolve, invoke, builtin, Sem.run_bind, Sem.run_pure, Result.andThen_ok, List.map_toArray, List.map_cons, List.map_nil, hs, hx, hrun]
  exact hK _ _ (h v' w' ⟨r1, (hb0.mono hbase).trans r2⟩)

/-- the same, at a step of a region that draws -/
theorem step_fewB {w : World} {ops : Array Oper} {o : Oper} {a : Act} {K : Act → World → Prop} {Q' : Exit → Act → World → Prop} {E : Prop} (hgd : o.guard = none) (sl x : Operand)
    (ho : o.op = .call { callee := .builtin .append, args := #[sl, x], argTypes := #[44, 44] })
    (base n c b : Nat) (v : Value) (xs : List Value) (A : List Value) (hA : A.length = c) (h1 : ∀ u ∈ A, u.oneCell' = true) (hs : a.eval sl = v) (hown : QRow w base v n xs) (hc : 0 < c) (hb : w.heap[b]? = some (.cells A.toArray 5 (0, 0)))
    (hx : a.eval x = .slice (some ⟨b, 0, none⟩) c c) (hn : n + c ≤ 140737488355328) (hbase : base ≤ w.heap.size)
    (h : ∀ v' w', Hid (w'.ownsRow base 5 1 v' (n + c) (xs ++ A) ∧ Below base w w') → K (a.put o.dst v') w') :
    if Region.wanted o (yielded ops a.tmps) = true then Oper.wp Tryd.prog o a w K Q' else E := by
  have hw : Region.wanted o (yielded ops a.tmps) = true := by simp [Region.wanted, hgd]
  rw [if_pos hw]
  obtain ⟨v', w', hrun, r1, r2⟩ := run_few o.type base n c v xs A hA h1 hown hc hn hbase b hb
  unfold Oper.wp
  simp only [execOp, ho, resolve, invoke, builtin, Sem.run_bind, Sem.run_pure, Result.andThen_ok, List.map_toArray, List.map_cons, List.map_nil, hs, hx, hrun]
  exact h v' w' (hide ⟨r1, r2⟩)

theorem byte_conv {w : World} {base n : Nat} {v : Value} {zs : List Int} (h : w.ownsRow base 5 1 v (n + 1) (zs.map (Value.int .u8))) :
    ∃ b cap, v = .slice (some ⟨b, 0, none⟩) (n + 1) cap ∧ Sem.run Tryd.prog (convert 44 9 (.slice (some ⟨b, 0, none⟩) (n + 1) cap)) w = .ok (.string (strOfNums zs)) w := by
  have hl : zs.length = n + 1 := by have := h.1; simpa using this
  rcases h.2 with ⟨_, e⟩ | ⟨b, cap, cur, rfl, _⟩
  · omega
  · refine ⟨b, cap, rfl, ?_⟩
    refine run_convert_bytes_arg (P := Tryd.prog) w 44 5 Tryd.underlying44 Tryd.underlying5 b 0 (n + 1) cap zs hl (fun j hj => ?_) 9 Tryd.underlying9
    have hc := h.cells (g := b) rfl j (.int .u8 (zs.getD j 0)) (by
      rw [List.getElem?_map, List.getD_eq_getElem?_getD, List.getElem?_eq_getElem (by omega)]
      rfl)
    have ha : (⟨b, 0, none⟩ : Addr).add j = ⟨b, 0 + j, none⟩ := by unfold Addr.add; split <;> simp_all
    rw [ha] at hc
    exact hc
end Go.Proofs.YtnflbgejjgjpcaaDoor

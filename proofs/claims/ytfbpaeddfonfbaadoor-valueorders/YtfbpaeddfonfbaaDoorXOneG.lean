/-
  append of one element of any type onto a row of the call's own; no conditions.
-/
import Derived.Test.YtfbpaeddfonfbaaDoorXRows
import Derived.Deep.AppendLies
namespace Go.Proofs.YtfbpaeddfonfbaaDoor
open Go.RowKit
set_option linter.unusedVariables false
set_option linter.unusedSimpArgs false

/-- append of one element that was just laid -/
theorem wpl_oneG {P : Program} {w : World} {ops : Array Oper} {rest : List Oper} {o : Oper} {a : Act} {Q : Exit → Act → World → Prop} (hgd : o.guard = none) (sl x : Operand) (T e : TypeId) (i0 : TypeInfo) (z : Value) (size bytes : Nat)
    (hu : P.underlying T = some (.slice e)) (hi : P.info? e = some i0) (hz : i0.zero = some z) (hs1 : i0.size = size) (hby : i0.bytes = bytes) (hzs : z.cells.size = size) (hsz : 0 < size)
    (ho : o.op = .call { callee := .builtin .append, args := #[sl, x], argTypes := #[T, T] })
    (base n : Nat) (v : Value) (xs : List Value) (A : List Value) (hA : A.length = size) (h1 : ∀ u ∈ A, u.oneCell' = true) (hs : a.eval sl = v) (hown : w.ownsRow base e size v n xs)
    (hx : a.eval x = .slice (some ⟨w.heap.size, 0, none⟩) 1 1) (hn : n + 1 ≤ maxLen) (hbytes : (n + 1) * bytes ≤ 140737488355328) (hbase : base ≤ w.heap.size)
    (h : ∀ v' w', Hid (w'.ownsRow base e size v' (n + 1) (xs ++ A) ∧ w.grownBy w' v.ownBlock ∧ ∀ b, v'.ownBlock = some b → v.ownBlock = some b ∨ w.heap.size ≤ b) → wpList P ops Q rest (a.put o.dst v') w') :
    wpList P ops Q (o :: rest) a (w.alloc (.cells A.toArray e)) := by
  refine wpList_plain hgd fun K hK => ?_
  have hb : Below w.heap.size w (w.alloc (.cells A.toArray e)) := (Below.refl _ _).alloc (Nat.le_refl _) _
  have hnew := heap_alloc_new w (.cells A.toArray e)
  have hz1 : (w.alloc (.cells A.toArray e)).heap.size = w.heap.size + 1 := by simp
  obtain ⟨v', w', hrun, r1, r2, _, r4⟩ := run_append_own_at (P := P) (w.alloc (.cells A.toArray e)) base T o.type e i0 z size bytes hu hi hz hs1 hby hzs hsz v n xs (hown.alloc _) ⟨w.heap.size, 0, none⟩ 1 1 A (by omega) (fun j u hj => World.news_of_block hnew j u (by simpa using hj)) h1 hn hbytes (by omega)
  unfold Oper.wp
  simp only [execOp, ho, resolve, invoke, builtin, Sem.run_bind, Sem.run_pure, Result.andThen_ok, List.map_toArray, List.map_cons, List.map_nil, hs, hx, hrun]
  refine hK _ _ (h v' w' ⟨r1, ⟨r2.os, r2.tape, r2.output, by have := r2.size; omega, fun k hk hne => (r2.block k (by omega) hne).trans (heap_alloc_old w _ hk)⟩, fun b hb' => ?_⟩)
  rcases r4 with e' | e'
  · exact Or.inl (by rw [← e']; exact hb')
  · rw [hb'] at e'
    exact Or.inr (by rw [Option.some.inj e', hz1]; omega)

end Go.Proofs.YtfbpaeddfonfbaaDoor

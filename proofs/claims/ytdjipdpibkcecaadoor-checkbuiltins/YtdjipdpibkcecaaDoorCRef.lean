/-
  The document's own table of operations (layer 8): Rows, Info, Named; no conditions.
-/
import Derived.Test.YtdjipdpibkcecaaDoorCTab
import Derived.OwnWalk
namespace Go.Proofs.YtdjipdpibkcecaaDoor
open Go.RowKit

/-- the table without the blank row, as cells -/
def ROWV : List Value := OPS.tail.flatMap infV

theorem ROWV_at (k : Nat) (x : Inf) (hx : OPS[k + 1]? = some x) (j : Nat) (v : Value) (hv : (infV x)[j]? = some v) : ROWV[k * 6 + j]? = some v := by
  have key : ∀ (l : List Inf) (k : Nat) (x : Inf), l[k]? = some x → ∀ j v, (infV x)[j]? = some v → (l.flatMap infV)[k * 6 + j]? = some v := by
    intro l
    induction l with
    | nil => intro k x h; simp at h
    | cons y r ih =>
      intro k x h j v hv
      have hj : j < 6 := (List.getElem?_eq_some_iff.1 hv).1
      rw [List.flatMap_cons]
      cases k with
      | zero =>
        simp at h
        subst h
        rw [Nat.zero_mul, Nat.zero_add, List.getElem?_append_left hj]
        exact hv
      | succ k =>
        rw [List.getElem?_append_right (by show 6 ≤ _; omega), show (k + 1) * 6 + j - (infV y).length = k * 6 + j by show (k + 1) * 6 + j - 6 = _; omega]
        exact ih k x (by simpa using h) j v hv
  refine key OPS.tail k x ?_ j v hv
  rw [List.getElem?_tail]
  exact hx

/-- a list that is laid, its cells a term of one's own -/
theorem wpList_buildSlice {P : Program} {w : World} {ops : Array Oper} {rest : List Oper} {o : Oper} {a : Act} {Q : Exit → Act → World → Prop} (hgd : o.guard = none) (T : TypeId) (n : Nat) (parts : Array (Nat × Operand)) (ho : o.op = .buildSlice T n parts)
    (vals : List (Nat × Value)) (hp : (parts.map fun (i, x) => (i, a.eval x)).toList = vals) (e : TypeId) (z : Value) (size : Nat) (i0 : TypeInfo) (hu : P.underlying T = some (.slice e)) (hi : P.info? e = some i0) (hz : i0.zero = some z) (hs : i0.size = size) (hn0 : ¬ n * size = 0) (hn : n * size ≤ 16777216)
    (c : Array Value) (hf : Instr.fill (fun i => some (i * size, size)) ((Array.range (n * size)).map (z.cells[· % z.cells.size]!)) vals = some c)
    (h : ∀ w', Hid (w' = w.alloc (.cells c e)) → wpList P ops Q rest (a.put o.dst (.slice (some ⟨w.heap.size, 0, none⟩) n n)) w') : wpList P ops Q (o :: rest) a w := by
  refine wpList_plain hgd fun K hK => ?_
  have hp' : (parts.map fun (i, x) => (i, a.eval x)) = vals.toArray := by rw [← hp]
  have hnn : ¬ 16777216 < n * size := by omega
  have hrun : (Instr.buildSlice T n vals.toArray).run P w = .ok (.slice (some ⟨w.heap.size, 0, none⟩) n n) (w.alloc (.cells c e)) := by
    subst hs
    simp [Instr.buildSlice, run_underlying hu, sizeOf, typeInfo, zeroValue, hi, hz, hn0, hnn, hf, newRow, Result.andThen]
  unfold Oper.wp
  simp only [execOp, ho, hp', hrun, Sem.run_bind, Result.andThen]
  exact hK _ _ (h _ rfl)


theorem inf_info : (Tryd.prog.info? 28).map (fun i => (i.zero, i.size, i.bytes)) = some (some (.agg #[.string ⟨#[]⟩, .int .i64 0, .int .i64 0, .int .i64 0, .int .i64 0, .int .i64 0]), 6, 56) := by kernel_rfl

def infoVals : List (Nat × Value) := (List.range 41).map fun k => (k, .agg (infV (OPS.getD (k + 1) blank)).toArray)

theorem rows_fill : Instr.fill (fun i => some (i * 6, 6)) ((Array.range (41 * 6)).map ((Value.agg #[.string ⟨#[]⟩, .int .i64 0, .int .i64 0, .int .i64 0, .int .i64 0, .int .i64 0]).cells[· % (Value.agg #[.string ⟨#[]⟩, .int .i64 0, .int .i64 0, .int .i64 0, .int .i64 0, .int .i64 0]).cells.size]!)) infoVals = some ROWV.toArray := by kernel_rfl

set_option maxRecDepth 100000 in
set_option maxHeartbeats 2000000 in
theorem rows_any (w : World) : Calls Tryd.prog 10 #[] w fun e w' => e = .returned (.slice (some ⟨w.heap.size, 0, none⟩) 41 41) ∧ w'.heap[w.heap.size]? = some (.cells ROWV.toArray 28 (0, 0)) ∧ w'.heap.size = w.heap.size + 1 ∧ Below w.heap.size w w' := by
  obtain ⟨i0, hi, hz0, hz1, hz2⟩ := info_parts inf_info
  go_enter Tryd.func10, Tryd.ntmps10
  have tok : True := trivial
  go_wp2_with (first | (have _t := tok; refine wpList_buildSlice rfl 32 41 _ rfl infoVals ?_ 28 _ 6 i0 Tryd.underlying32 hi hz0 hz1 (by decide) (by decide) ROWV.toArray rows_fill ?_; clear tok))
  · kernel_rfl
  · intro w1 hw1
    have B1 : Hid (w1.heap[w.heap.size]? = some (.cells ROWV.toArray 28 (0, 0)) ∧ w1.heap.size = w.heap.size + 1 ∧ Below w.heap.size w w1) := hide (by
      rw [unhide hw1]
      exact ⟨heap_alloc_new _ _, by simp, (Below.refl _ _).alloc (Nat.le_refl _) _⟩)
    clear hw1
    go_wp2_with fail
    go_ret
    exact ⟨rfl, unhide B1⟩
end Go.Proofs.YtdjipdpibkcecaaDoor

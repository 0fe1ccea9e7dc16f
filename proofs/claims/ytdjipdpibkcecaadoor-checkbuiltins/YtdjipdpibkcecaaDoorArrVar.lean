/-
  Laws for variables that hold whole arrays or structs: made, written, with the worlds behind them as letters; no conditions.
-/
import Derived.Test.YtdjipdpibkcecaaDoorArr
namespace Go.Proofs.YtdjipdpibkcecaaDoor
open Go.RowKit

/-- a new block -/
structure Made (w w' : World) (c : Array Value) (T : TypeId) : Prop where
  at' : w'.heap[w.heap.size]? = some (.cells c T (0, 0))
  size : w'.heap.size = w.heap.size + 1
  below : Below w.heap.size w w'

/-- a block that was written over -/
structure Put (w w' : World) (g : Nat) (c : Array Value) (T : TypeId) : Prop where
  at' : w'.heap[g]? = some (.cells c T (0, 0))
  size : w'.heap.size = w.heap.size
  other : ∀ k, k ≠ g → w'.heap[k]? = w.heap[k]?
  below : ∀ (B : Nat) (a : World), Below B a w → B ≤ g → Below B a w'

theorem Made.mk' {w : World} {c : Array Value} {T : TypeId} : Made w (w.alloc (.cells c T)) c T :=
  ⟨heap_alloc_new w _, by simp, (Below.refl _ _).alloc (Nat.le_refl _) _⟩

theorem Put.mk' {w : World} {g : Nat} {c c' : Array Value} {T : TypeId} (hb : w.heap[g]? = some (.cells c T (0, 0))) : Put w (w.setRow g c') g c' T :=
  ⟨setRow_heap w g c c' T _ hb, by simp, fun k hk => setRow_other w g k c' hk, fun _ _ h hB => below_setRow h hB c'⟩

theorem wpList_new_arr {P : Program} {w : World} {ops : Array Oper} {rest : List Oper} {o : Oper} {a : Act} {Q : Exit → Act → World → Prop} (hgd : o.guard = none) (T : TypeId) (ho : o.op = .alloc T)
    (i : TypeInfo) (z : Array Value) (hi : P.info? T = some i) (hz : i.zero = some (.agg z))
    (h : ∀ w', Hid (Made w w' z T) → wpList P ops Q rest (a.put o.dst (.pointer (some ⟨w.heap.size, 0, none⟩))) w') : wpList P ops Q (o :: rest) a w := by
  refine wpList_alloc_arr hgd T ho i (.agg z) hi hz fun w' e => ?_
  have e' : w' = w.alloc (.cells z T) := e
  subst e'
  exact h _ Made.mk'

theorem wpList_put_arr {P : Program} {w : World} {ops : Array Oper} {rest : List Oper} {o : Oper} {a : Act} {Q : Exit → Act → World → Prop} (hgd : o.guard = none) (T : TypeId) (x y : Operand) (ho : o.op = .store T x y)
    (g : Nat) (c c' : Array Value) (hx : a.eval x = .pointer (some ⟨g, 0, none⟩)) (hy : a.eval y = .agg c') (hb : w.heap[g]? = some (.cells c T (0, 0))) (hs : c.size = c'.size) (hi : (P.info? T).map (·.size) = some c'.size) (h1 : c'.all (·.oneCell') = true)
    (h : ∀ w', Hid (Put w w' g c' T) → wpList P ops Q rest (a.put o.dst undef) w') : wpList P ops Q (o :: rest) a w :=
  wpList_store_arr hgd T x y ho g c c' hx hy hb hs hi h1 (h _ (Put.mk' hb))

theorem size_is {P : Program} {e : TypeId} {n : Nat} (h : (P.info? e).map (·.size) = some n) (w : World) : (sizeOf e).run P w = .ok n w := by
  cases hq : P.info? e with
  | none => rw [hq] at h; cases h
  | some i => rw [hq] at h; simp at h; simp [sizeOf, typeInfo, hq, h, Result.andThen]

/-- an element of an array of integers that is no variable -/
theorem run_index_arr {P : Program} (w : World) (t e : TypeId) (n : Nat) (cs : Array Value) (k k' : IntKind) (i : Nat) (v : Value) (h : P.underlying t = some (.array n e)) (he : P.underlying e = some (.int k')) (hs : (P.info? e).map (·.size) = some 1) (hi : i < n) (hv : cs[i]? = some v) :
    (Instr.index t (.agg cs) (.int k (i : Int))).run P w = .ok v w := by
  have h1 : (0 : Int) ≤ (i : Int) ∧ (i : Int) < (n : Int) := by omega
  simp [Instr.index, run_underlying h, asIntOf, h1, size_is hs, part, isAgg, run_underlying he, hv, Result.andThen]
  omega

/-- a cell of the world behind -/
theorem Put.cell {w w' : World} {g : Nat} {c : Array Value} {T : TypeId} (h : Put w w' g c T) {p : Addr} (hp : p.block ≠ g) : w'.cell? p = w.cell? p := World.cell?_of_block (w := w) (h.other p.block hp)
end Go.Proofs.YtdjipdpibkcecaaDoor

/-
  Laws for variables that hold whole arrays or structs: made, written, with the worlds behind them as letters; no conditions.
  Rows of 32-bit words in memory; arrays and structs of layer 2 by their sizes; no conditions.
-/
import Derived.Test.YtjgjebohbgbimaaDoorA28
import Derived.Deep.MidRow
import Derived.Deep.QuietTactic
set_option linter.unusedVariables false
set_option linter.unusedSimpArgs false
namespace Go.Proofs.YtjgjebohbgbimaaDoor
open Go.RowKit

/-- a new block -/
structure Made (w w' : World) (c : Array Value) (T : TypeId) : Prop where
  at' : w'.heap[w.heap.size]? = some (.cells c T (0, 0))
  size : w'.heap.size = w.heap.size + 1
  below : Below w.heap.size w w'

/-- a block that was written over -/
structure Put (w w' : World) (g : Nat) (c : Array Value) (T : TypeId) : Prop where
  at' : w'.heap[g]? = some (.cells c T (0, 0))
  size : w'.heap.size = w.heap.size
  other : ∀ k, k ≠ g → w'.heap[k]? = w.heap[k]?
  below : ∀ (B : Nat) (a : World), Below B a w → B ≤ g → Below B a w'

theorem Made.mk' {w : World} {c : Array Value} {T : TypeId} : Made w (w.alloc (.cells c T)) c T :=
  ⟨heap_alloc_new w _, by simp, (Below.refl _ _).alloc (Nat.le_refl _) _⟩

theorem Put.mk' {w : World} {g : Nat} {c c' : Array Value} {T : TypeId} (hb : w.heap[g]? = some (.cells c T (0, 0))) : Put w (w.setRow g c') g c' T :=
  ⟨setRow_heap w g c c' T _ hb, by simp, fun k hk => setRow_other w g k c' hk, fun _ _ h hB => below_setRow h hB c'⟩

theorem wpList_new_arr {P : Program} {w : World} {ops : Array Oper} {rest : List Oper} {o : Oper} {a : Act} {Q : Exit → Act → World → Prop} (hgd : o.guard = none) (T : TypeId) (ho : o.op = .alloc T)
    (i : TypeInfo) (z : Array Value) (hi : P.info? T = some i) (hz : i.zero = some (.agg z))
    (h : ∀ w', Hid (Made w w' z T) → wpList P ops Q rest (a.put o.dst (.pointer (some ⟨w.heap.size, 0, none⟩))) w') : wpList P ops Q (o :: rest) a w := by
  refine wpList_alloc_arr hgd T ho i (.agg z) hi hz fun w' e => ?_
  have e' : w' = w.alloc (.cells z T) := e
  subst e'
  exact h _ Made.mk'

theorem wpList_put_arr {P : Program} {w : World} {ops : Array Oper} {rest : List Oper} {o : Oper} {a : Act} {Q : Exit → Act → World → Prop} (hgd : o.guard = none) (T : TypeId) (x y : Operand) (ho : o.op = .store T x y)
    (g : Nat) (c c' : Array Value) (hx : a.eval x = .pointer (some ⟨g, 0, none⟩)) (hy : a.eval y = .agg c') (hb : w.heap[g]? = some (.cells c T (0, 0))) (hs : c.size = c'.size) (hi : (P.info? T).map (·.size) = some c'.size) (h1 : c'.all (·.oneCell') = true)
    (h : ∀ w', Hid (Put w w' g c' T) → wpList P ops Q rest (a.put o.dst undef) w') : wpList P ops Q (o :: rest) a w :=
  wpList_store_arr hgd T x y ho g c c' hx hy hb hs hi h1 (h _ (Put.mk' hb))

theorem size_is {P : Program} {e : TypeId} {n : Nat} (h : (P.info? e).map (·.size) = some n) (w : World) : (sizeOf e).run P w = .ok n w := by
  cases hq : P.info? e with
  | none => rw [hq] at h; cases h
  | some i => rw [hq] at h; simp at h; simp [sizeOf, typeInfo, hq, h, Result.andThen]

/-- an element of an array of integers that is no variable -/
theorem run_index_arr {P : Program} (w : World) (t e : TypeId) (n : Nat) (cs : Array Value) (k k' : IntKind) (i : Nat) (v : Value) (h : P.underlying t = some (.array n e)) (he : P.underlying e = some (.int k')) (hs : (P.info? e).map (·.size) = some 1) (hi : i < n) (hv : cs[i]? = some v) :
    (Instr.index t (.agg cs) (.int k (i : Int))).run P w = .ok v w := by
  have h1 : (0 : Int) ≤ (i : Int) ∧ (i : Int) < (n : Int) := by omega
  simp [Instr.index, run_underlying h, asIntOf, h1, size_is hs, part, isAgg, run_underlying he, hv, Result.andThen]
  omega

/-- a cell of the world behind -/
theorem Put.cell {w w' : World} {g : Nat} {c : Array Value} {T : TypeId} (h : Put w w' g c T) {p : Addr} (hp : p.block ≠ g) : w'.cell? p = w.cell? p := World.cell?_of_block (w := w) (h.other p.block hp)
end Go.Proofs.YtjgjebohbgbimaaDoor

namespace Go.Proofs.YtjgjebohbgbimaaDoor
open Go.RowKit

/-- a block of words -/
def Words (w : World) (g : Nat) (T : TypeId) (ws : List Int) : Prop := w.heap[g]? = some (.cells (ws.map (Value.int .u32)).toArray T (0, 0))

theorem Words.cell {w : World} {g : Nat} {T : TypeId} {ws : List Int} (h : Words w g T ws) (j : Nat) (hj : j < ws.length) : w.cell? ⟨g, j, none⟩ = some (.int .u32 (ws.getD j 0)) := by
  rw [cell_of_row w g j _ T (0, 0) h]
  simp [List.getD, hj]

theorem Words.free {w : World} {g : Nat} {T : TypeId} {ws : List Int} (h : Words w g T ws) (j : Nat) : w.frozen? ⟨g, j, none⟩ = false := frozen_of_row w g j _ T h

theorem Words.set {w : World} {g : Nat} {T : TypeId} {ws : List Int} (h : Words w g T ws) (j : Nat) (x : Int) : Words (w.setCell ⟨g, j, none⟩ (.int .u32 x)) g T (ws.set j x) := by
  have := heap_setCell_same w g j _ T (.int .u32 x) h
  unfold Words
  rw [this]
  simp [List.map_set]

theorem Words.drewN {w : World} {g : Nat} {T : TypeId} {ws : List Int} (h : Words w g T ws) (q : Nat) : Words (w.drewN q) g T ws := h

theorem words_one (xs : List Int) : (xs.map (Value.int .u32)).toArray.all (·.oneCell') = true :=
  all_oneCell_toArray (by intro v hv; obtain ⟨n, _, rfl⟩ := List.mem_map.1 hv; rfl)

theorem mem_set' (ws : List Int) (t : Nat) (x : Int) (hx : 0 ≤ x ∧ x ≤ 4294967295) (h : ∀ y ∈ ws, 0 ≤ y ∧ y ≤ 4294967295) : ∀ y ∈ ws.set t x, 0 ≤ y ∧ y ≤ 4294967295 := by
  intro y hy
  rcases List.mem_or_eq_of_mem_set hy with h1 | h1
  · exact h y h1
  · rw [h1]; exact hx

theorem getD_bounds {ws : List Int} {m : Int} (h : ∀ y ∈ ws, 0 ≤ y ∧ y ≤ m) (hm : 0 ≤ m) (j : Nat) : 0 ≤ ws.getD j 0 ∧ ws.getD j 0 ≤ m := by
  by_cases hj : j < ws.length
  · have g : ws.getD j 0 = ws[j] := by simp [List.getD, hj]
    rw [g]; exact h _ (List.getElem_mem _)
  · have g : ws.getD j 0 = 0 := by simp [List.getD, List.getElem?_eq_none (by omega : ws.length ≤ j)]
    rw [g]; exact ⟨Int.le_refl _, hm⟩

/-- a whole array or struct out of the block that holds it -/
theorem wpList_load_blk {P : Program} {w : World} {ops : Array Oper} {rest : List Oper} {o : Oper} {a : Act} {Q : Exit → Act → World → Prop} (hgd : o.guard = none) (T : TypeId) (x : Operand) (ho : o.op = .load T x)
    (g : Nat) (c : Array Value) (d : TypeDesc) (hx : a.eval x = .pointer (some ⟨g, 0, none⟩)) (hb : w.heap[g]? = some (.cells c T (0, 0))) (hu : P.underlying T = some d) (hd : d.isRow = true) (hi : (P.info? T).map (·.size) = some c.size)
    (h : wpList P ops Q rest (a.put o.dst (.agg c)) w) : wpList P ops Q (o :: rest) a w := by
  refine wpList_load_mid hgd T x ho g 0 hx c.toList d ?_ hu hd (by simpa using hi) (by simpa using h)
  intro j v hv
  rw [Nat.zero_add, cell_of_row w g j c T (0, 0) hb]
  simpa using hv

/-- a whole array out of a block of whatever type -/
theorem wpList_load_tbl {P : Program} {w : World} {ops : Array Oper} {rest : List Oper} {o : Oper} {a : Act} {Q : Exit → Act → World → Prop} (hgd : o.guard = none) (T : TypeId) (x : Operand) (ho : o.op = .load T x)
    (g : Nat) (c : Array Value) (n : Nat) (e t : TypeId) (hx : a.eval x = .pointer (some ⟨g, 0, none⟩)) (hb : w.heap[g]? = some (.cells c t (0, 0))) (hu : P.underlying T = some (.array n e)) (hi : (P.info? T).map (·.size) = some c.size)
    (h : wpList P ops Q rest (a.put o.dst (.agg c)) w) : wpList P ops Q (o :: rest) a w := by
  refine wpList_load_mid hgd T x ho g 0 hx c.toList (.array n e) ?_ hu rfl (by simpa using hi) (by simpa using h)
  intro j v hv
  rw [Nat.zero_add, cell_of_row w g j c t (0, 0) hb]
  simpa using hv

theorem zinfo {P : Program} {T : TypeId} {z : Array Value} (h : (P.info? T).map (fun i => i.zero) = some (some (.agg z))) : ∃ i, P.info? T = some i ∧ i.zero = some (.agg z) := by
  cases hq : P.info? T with
  | none => rw [hq] at h; cases h
  | some i => rw [hq] at h; simp at h; exact ⟨i, rfl, by simpa using h⟩

def zw8 : Array Value := ((List.replicate 8 (0 : Int)).map (Value.int .u32)).toArray
def zw64 : Array Value := ((List.replicate 64 (0 : Int)).map (Value.int .u32)).toArray
def zb32 : Array Value := ((List.replicate 32 (0 : Int)).map (Value.int .u8)).toArray
def zb72 : Array Value := ((List.replicate 72 (0 : Int)).map (Value.int .u8)).toArray
theorem zi8 : ∃ i, Tryd.prog.info? 63 = some i ∧ i.zero = some (.agg zw8) := zinfo (by kernel_rfl)
theorem zi64 : ∃ i, Tryd.prog.info? 61 = some i ∧ i.zero = some (.agg zw64) := zinfo (by kernel_rfl)
theorem zi32 : ∃ i, Tryd.prog.info? 29 = some i ∧ i.zero = some (.agg zb32) := zinfo (by kernel_rfl)
theorem zi72 : ∃ i, Tryd.prog.info? 82 = some i ∧ i.zero = some (.agg zb72) := zinfo (by kernel_rfl)
theorem sw8 : (Tryd.prog.info? 63).map (·.size) = some 8 := by kernel_rfl
theorem sw64 : (Tryd.prog.info? 61).map (·.size) = some 64 := by kernel_rfl
theorem sb32 : (Tryd.prog.info? 29).map (·.size) = some 32 := by kernel_rfl
theorem sb64 : (Tryd.prog.info? 72).map (·.size) = some 64 := by kernel_rfl
theorem sb72 : (Tryd.prog.info? 82).map (·.size) = some 72 := by kernel_rfl
theorem s1b : (Tryd.prog.info? 5).map (·.size) = some 1 := by kernel_rfl
theorem s1w : (Tryd.prog.info? 60).map (·.size) = some 1 := by kernel_rfl

theorem sizeB {T : TypeId} {n : Nat} {l : List Int} (h : (Tryd.prog.info? T).map (·.size) = some n) (hl : l.length = n) : (Tryd.prog.info? T).map (·.size) = some (l.map (Value.int .u8)).toArray.size := by
  rw [show (l.map (Value.int .u8)).toArray.size = n by simp [hl]]
  exact h
theorem sizeW {T : TypeId} {n : Nat} {l : List Int} (h : (Tryd.prog.info? T).map (·.size) = some n) (hl : l.length = n) : (Tryd.prog.info? T).map (·.size) = some (l.map (Value.int .u32)).toArray.size := by
  rw [show (l.map (Value.int .u32)).toArray.size = n by simp [hl]]
  exact h
theorem arr_at8 {ds : List Int} {i : Nat} (h : i < ds.length) : (ds.map (Value.int .u8)).toArray[i]? = some (.int .u8 (ds.getD i 0)) := by
  simp [List.getD, h]
theorem arr_at32 {ds : List Int} {i : Nat} (h : i < ds.length) : (ds.map (Value.int .u32)).toArray[i]? = some (.int .u32 (ds.getD i 0)) := by
  simp [List.getD, h]
end Go.Proofs.YtjgjebohbgbimaaDoor

/-
  Rows of 32-bit words in memory; arrays and structs of layer 2 by their sizes; no conditions.
-/
import Derived.Test.YtfmbaidpeliakaaDoorDigDefs
import Derived.Test.YtfmbaidpeliakaaDoorArrVar
import Derived.Deep.MidRow
import Derived.Deep.QuietTactic
namespace Go.Proofs.YtfmbaidpeliakaaDoor
open Go.RowKit

/-- a block of words -/
def Words (w : World) (g : Nat) (T : TypeId) (ws : List Int) : Prop := w.heap[g]? = some (.cells (ws.map (Value.int .u32)).toArray T (0, 0))

theorem Words.cell {w : World} {g : Nat} {T : TypeId} {ws : List Int} (h : Words w g T ws) (j : Nat) (hj : j < ws.length) : w.cell? ⟨g, j, none⟩ = some (.int .u32 (ws.getD j 0)) := by
  rw [cell_of_row w g j _ T (0, 0) h]
  simp [List.getD, hj]

theorem Words.free {w : World} {g : Nat} {T : TypeId} {ws : List Int} (h : Words w g T ws) (j : Nat) : w.frozen? ⟨g, j, none⟩ = false := frozen_of_row w g j _ T h

theorem Words.set {w : World} {g : Nat} {T : TypeId} {ws : List Int} (h : Words w g T ws) (j : Nat) (x : Int) : Words (w.setCell ⟨g, j, none⟩ (.int .u32 x)) g T (ws.set j x) := by
  have := heap_setCell_same w g j _ T (.int .u32 x) h
  unfold Words
  rw [this]
  simp [List.map_set]

theorem Words.drewN {w : World} {g : Nat} {T : TypeId} {ws : List Int} (h : Words w g T ws) (q : Nat) : Words (w.drewN q) g T ws := h

theorem words_one (xs : List Int) : (xs.map (Value.int .u32)).toArray.all (·.oneCell') = true :=
  all_oneCell_toArray (by intro v hv; obtain ⟨n, _, rfl⟩ := List.mem_map.1 hv; rfl)

theorem mem_set' (ws : List Int) (t : Nat) (x : Int) (hx : 0 ≤ x ∧ x ≤ 4294967295) (h : ∀ y ∈ ws, 0 ≤ y ∧ y ≤ 4294967295) : ∀ y ∈ ws.set t x, 0 ≤ y ∧ y ≤ 4294967295 := by
  intro y hy
  rcases List.mem_or_eq_of_mem_set hy with h1 | h1
  · exact h y h1
  · rw [h1]; exact hx

theorem getD_bounds {ws : List Int} {m : Int} (h : ∀ y ∈ ws, 0 ≤ y ∧ y ≤ m) (hm : 0 ≤ m) (j : Nat) : 0 ≤ ws.getD j 0 ∧ ws.getD j 0 ≤ m := by
  by_cases hj : j < ws.length
  · have g : ws.getD j 0 = ws[j] := by simp [List.getD, hj]
    rw [g]; exact h _ (List.getElem_mem _)
  · have g : ws.getD j 0 = 0 := by simp [List.getD, List.getElem?_eq_none (by omega : ws.length ≤ j)]
    rw [g]; exact ⟨Int.le_refl _, hm⟩

/-- a whole array or struct out of the block that holds it -/
theorem wpList_load_blk {P : Program} {w : World} {ops : Array Oper} {rest : List Oper} {o : Oper} {a : Act} {Q : Exit → Act → World → Prop} (hgd : o.guard = none) (T : TypeId) (x : Operand) (ho : o.op = .load T x)
    (g : Nat) (c : Array Value) (d : TypeDesc) (hx : a.eval x = .pointer (some ⟨g, 0, none⟩)) (hb : w.heap[g]? = some (.cells c T (0, 0))) (hu : P.underlying T = some d) (hd : d.isRow = true) (hi : (P.info? T).map (·.size) = some c.size)
    (h : wpList P ops Q rest (a.put o.dst (.agg c)) w) : wpList P ops Q (o :: rest) a w := by
  refine wpList_load_mid hgd T x ho g 0 hx c.toList d ?_ hu hd (by simpa using hi) (by simpa using h)
  intro j v hv
  rw [Nat.zero_add, cell_of_row w g j c T (0, 0) hb]
  simpa using hv

/-- a whole array out of a block of whatever type -/
theorem wpList_load_tbl {P : Program} {w : World} {ops : Array Oper} {rest : List Oper} {o : Oper} {a : Act} {Q : Exit → Act → World → Prop} (hgd : o.guard = none) (T : TypeId) (x : Operand) (ho : o.op = .load T x)
    (g : Nat) (c : Array Value) (n : Nat) (e t : TypeId) (hx : a.eval x = .pointer (some ⟨g, 0, none⟩)) (hb : w.heap[g]? = some (.cells c t (0, 0))) (hu : P.underlying T = some (.array n e)) (hi : (P.info? T).map (·.size) = some c.size)
    (h : wpList P ops Q rest (a.put o.dst (.agg c)) w) : wpList P ops Q (o :: rest) a w := by
  refine wpList_load_mid hgd T x ho g 0 hx c.toList (.array n e) ?_ hu rfl (by simpa using hi) (by simpa using h)
  intro j v hv
  rw [Nat.zero_add, cell_of_row w g j c t (0, 0) hb]
  simpa using hv

theorem zinfo {P : Program} {T : TypeId} {z : Array Value} (h : (P.info? T).map (fun i => i.zero) = some (some (.agg z))) : ∃ i, P.info? T = some i ∧ i.zero = some (.agg z) := by
  cases hq : P.info? T with
  | none => rw [hq] at h; cases h
  | some i => rw [hq] at h; simp at h; exact ⟨i, rfl, by simpa using h⟩

def zw8 : Array Value := ((List.replicate 8 (0 : Int)).map (Value.int .u32)).toArray
def zw64 : Array Value := ((List.replicate 64 (0 : Int)).map (Value.int .u32)).toArray
def zb32 : Array Value := ((List.replicate 32 (0 : Int)).map (Value.int .u8)).toArray
def zb72 : Array Value := ((List.replicate 72 (0 : Int)).map (Value.int .u8)).toArray
theorem zi8 : ∃ i, Tryd.prog.info? 40 = some i ∧ i.zero = some (.agg zw8) := zinfo (by kernel_rfl)
theorem zi64 : ∃ i, Tryd.prog.info? 46 = some i ∧ i.zero = some (.agg zw64) := zinfo (by kernel_rfl)
theorem zi32 : ∃ i, Tryd.prog.info? 26 = some i ∧ i.zero = some (.agg zb32) := zinfo (by kernel_rfl)
theorem zi72 : ∃ i, Tryd.prog.info? 55 = some i ∧ i.zero = some (.agg zb72) := zinfo (by kernel_rfl)
theorem sw8 : (Tryd.prog.info? 40).map (·.size) = some 8 := by kernel_rfl
theorem sw64 : (Tryd.prog.info? 46).map (·.size) = some 64 := by kernel_rfl
theorem sb32 : (Tryd.prog.info? 26).map (·.size) = some 32 := by kernel_rfl
theorem sb64 : (Tryd.prog.info? 41).map (·.size) = some 64 := by kernel_rfl
theorem sb72 : (Tryd.prog.info? 55).map (·.size) = some 72 := by kernel_rfl
theorem s1b : (Tryd.prog.info? 5).map (·.size) = some 1 := by kernel_rfl
theorem s1w : (Tryd.prog.info? 39).map (·.size) = some 1 := by kernel_rfl

theorem sizeB {T : TypeId} {n : Nat} {l : List Int} (h : (Tryd.prog.info? T).map (·.size) = some n) (hl : l.length = n) : (Tryd.prog.info? T).map (·.size) = some (l.map (Value.int .u8)).toArray.size := by
  rw [show (l.map (Value.int .u8)).toArray.size = n by simp [hl]]
  exact h
theorem sizeW {T : TypeId} {n : Nat} {l : List Int} (h : (Tryd.prog.info? T).map (·.size) = some n) (hl : l.length = n) : (Tryd.prog.info? T).map (·.size) = some (l.map (Value.int .u32)).toArray.size := by
  rw [show (l.map (Value.int .u32)).toArray.size = n by simp [hl]]
  exact h
theorem arr_at8 {ds : List Int} {i : Nat} (h : i < ds.length) : (ds.map (Value.int .u8)).toArray[i]? = some (.int .u8 (ds.getD i 0)) := by
  simp [List.getD, h]
theorem arr_at32 {ds : List Int} {i : Nat} (h : i < ds.length) : (ds.map (Value.int .u32)).toArray[i]? = some (.int .u32 (ds.getD i 0)) := by
  simp [List.getD, h]
end Go.Proofs.YtfmbaidpeliakaaDoor

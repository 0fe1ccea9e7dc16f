/-
  The digits of a digest as numbers: what a digit says, or -1, and back; no conditions.
  The walks of math/bits.RotateLeft32, hash.right and hash.turns: words turned to the right; condition: by 1 to 31 places.
  Laws for arrays in memory, whole: a load, a store, of whatever cells; rows of bytes; no conditions.
-/
import Derived.Test.YtjgjebohbgbimaaDoorA00
import Derived.WalkKit
import Derived.WalkSpells
import Derived.OpenShut
import Derived.Test.YtjgjebohbgbimaaDoorRows
import Derived.Deep.QuietTactic
import Derived.BigQuiet
import Derived.WalkSmall
import Derived.Laws.BitsAllLaws
import Derived.Deep.WholeRow
import Derived.Deep.MidRow
import Derived.Laws.Tables
import Derived.Laws.ResultCell
import Derived.Laws.CopyOwn
set_option linter.unusedVariables false
set_option linter.unusedSimpArgs false
namespace Go.Proofs.YtjgjebohbgbimaaDoor
open Go.RowKit


/-- what a digit says -/
def digI (c : Int) : Int := if 48 ≤ c ∧ c ≤ 57 then c - 48 else if 97 ≤ c ∧ c ≤ 102 then c - 87 else -1

/-- the digit of a number below 16 -/
def hexC (n : Int) : Int := if n < 10 then n + 48 else n + 87

theorem dig_hex (n : Int) (h0 : 0 ≤ n) (h1 : n < 16) : digI (hexC n) = n := by
  unfold digI hexC; split <;> split <;> (try split) <;> omega

theorem hex_dig (c : Int) (h : 0 ≤ digI c) : hexC (digI c) = c := by
  unfold digI hexC at *; split at h <;> (try split at h) <;> (try split) <;> (try split) <;> (try split) <;> omega

theorem dig_eq (c : Int) (k : Nat) (hk : k < 16) (h : hexC k = c) : digI c = k := by
  rw [← h, dig_hex _ (by omega) (by omega)]

theorem dig_none (c : Int) (h : ∀ k : Nat, k < 16 → hexC k ≠ c) : digI c = -1 := by
  by_cases hd : 0 ≤ digI c
  · exfalso
    have e := hex_dig c hd
    have hb : digI c < 16 := by unfold digI; split <;> (try split) <;> omega
    exact h (digI c).toNat (by omega) (by rw [show ((digI c).toNat : Int) = digI c from by omega]; exact e)
  · unfold digI at *; split at hd <;> (try split at hd) <;> omega

/-- the sixteen digits -/
theorem digs_at (k : Nat) (h : k < (⟨#[48, 49, 50, 51, 52, 53, 54, 55, 56, 57, 97, 98, 99, 100, 101, 102]⟩ : ByteArray).size) :
    (((⟨#[48, 49, 50, 51, 52, 53, 54, 55, 56, 57, 97, 98, 99, 100, 101, 102]⟩ : ByteArray)[k]'h).toNat : Int) = hexC k := by
  have h' : k < 16 := h
  match k, h, h' with
  | 0, _, _ => rfl
  | 1, _, _ => rfl
  | 2, _, _ => rfl
  | 3, _, _ => rfl
  | 4, _, _ => rfl
  | 5, _, _ => rfl
  | 6, _, _ => rfl
  | 7, _, _ => rfl
  | 8, _, _ => rfl
  | 9, _, _ => rfl
  | 10, _, _ => rfl
  | 11, _, _ => rfl
  | 12, _, _ => rfl
  | 13, _, _ => rfl
  | 14, _, _ => rfl
  | 15, _, _ => rfl
  | k + 16, _, h => omega

theorem ret_intH {k : IntKind} {a b : Int} (h : a = b) : Ending.returned (.int k a) = .returned (.int k b) := by rw [h]

end Go.Proofs.YtjgjebohbgbimaaDoor

namespace Go.Proofs.YtjgjebohbgbimaaDoor
open Go.RowKit

/-- a word, turned to the right by n places -/
def rotR (x : Int) (n : Nat) : Int := bits .or .u32 (IntKind.u32.wrap (x * 2 ^ (32 - n))) (x / 2 ^ n)

theorem and_all : ∀ n : Fin 32, 1 ≤ n.val → bits .and .u64 (IntKind.u64.wrap (-(n.val : Int))) 31 = 32 - (n.val : Int) := by decide +kernel

set_option maxRecDepth 100000 in
set_option maxHeartbeats 400000 in
theorem rotL_any (x : Int) (n : Nat) (w : World) (h1 : 1 ≤ n) (h2 : n ≤ 31) :
    Calls Tryd.prog 62 #[.int .u32 x, .int .i64 (-(n : Int))] w fun e w' => e = .returned (.int .u32 (rotR x n)) ∧ w' = w := by
  have e0 := and_all ⟨n, by omega⟩ h1
  simp only at e0
  have e1 : 32 - (32 - (n : Int)) = (n : Int) := by omega
  have e2 : (32 - (n : Int)).toNat = 32 - n := by omega
  have e3 : IntKind.u64.wrap (32 - (32 - (n : Int))) = (n : Int) := by rw [IntKind.wrap_u64]; omega
  have i1 : (0 : Int) ≤ (n : Int) := by omega
  have i2 : (n : Int) ≤ 32 := by omega
  have i3 : (0 : Int) ≤ 32 - (n : Int) := by omega
  have i4 : 32 - (n : Int) ≤ 32 := by omega
  go_enter Tryd.func62, Tryd.ntmps62
  go_wp2_with fail
  go_ret
  exact ⟨rfl, rfl⟩

theorem rightH_any (x N : Int) (w : World) (h1 : 1 ≤ N) (h2 : N ≤ 31) :
    Calls Tryd.prog 61 #[.int .u32 x, .int .i64 N] w fun e w' => e = .returned (.int .u32 (rotR x N.toNat)) ∧ w' = w := by
  obtain ⟨n, rfl⟩ : ∃ n : Nat, N = n := ⟨N.toNat, by omega⟩
  have C := fun w => hide (rotL_any x n w (by omega) (by omega))
  go_enter Tryd.func61, Tryd.ntmps61
  go_wp2_with fail
  refine (unhide (C _)).mono ?_
  rintro e w1 ⟨rfl, rfl⟩
  go_wp2_with fail
  go_ret
  exact ⟨rfl, rfl⟩

/-- three turns, laid over each other -/
def turns3 (x : Int) (a b c : Nat) : Int := bits .xor .u32 (bits .xor .u32 (rotR x a) (rotR x b)) (rotR x c)

theorem turns_any (x N M O : Int) (w : World) (h1 : 1 ≤ N) (h2 : N ≤ 31) (h3 : 1 ≤ M) (h4 : M ≤ 31) (h5 : 1 ≤ O) (h6 : O ≤ 31) :
    Calls Tryd.prog 58 #[.int .u32 x, .int .i64 N, .int .i64 M, .int .i64 O] w fun e w' => e = .returned (.int .u32 (turns3 x N.toNat M.toNat O.toNat)) ∧ w' = w := by
  have C1 := fun w => hide (rightH_any x N w h1 h2)
  have C2 := fun w => hide (rightH_any x M w h3 h4)
  have C3 := fun w => hide (rightH_any x O w h5 h6)
  unfold turns3
  go_enter Tryd.func58, Tryd.ntmps58
  go_wp2_with fail
  refine (unhide (C1 _)).mono ?_
  rintro e w1 ⟨rfl, rfl⟩
  go_wp2_with fail
  refine (unhide (C2 _)).mono ?_
  rintro e w2 ⟨rfl, rfl⟩
  go_wp2_with fail
  refine (unhide (C3 _)).mono ?_
  rintro e w3 ⟨rfl, rfl⟩
  go_wp2_with fail
  go_ret
  exact ⟨rfl, rfl⟩

theorem bits_bounds (op : BinOp) (a b : Int) : 0 ≤ bits op .u32 a b ∧ bits op .u32 a b ≤ 4294967295 := by
  unfold bits
  simp only [IntKind.wrap_u32']
  omega

theorem rotR_bounds (x : Int) (n : Nat) : 0 ≤ rotR x n ∧ rotR x n ≤ 4294967295 := bits_bounds _ _ _
theorem turns3_bounds (x : Int) (a b c : Nat) : 0 ≤ turns3 x a b c ∧ turns3 x a b c ≤ 4294967295 := bits_bounds _ _ _
end Go.Proofs.YtjgjebohbgbimaaDoor

namespace Go.Proofs.YtjgjebohbgbimaaDoor
open Go.RowKit

/-- a whole array out of the block that holds it -/
theorem wpList_load_arr {P : Program} {w : World} {ops : Array Oper} {rest : List Oper} {o : Oper} {a : Act} {Q : Exit → Act → World → Prop} (hgd : o.guard = none) (T : TypeId) (x : Operand) (ho : o.op = .load T x)
    (g : Nat) (c : Array Value) (n : Nat) (e : TypeId) (hx : a.eval x = .pointer (some ⟨g, 0, none⟩)) (hb : w.heap[g]? = some (.cells c T (0, 0))) (hu : P.underlying T = some (.array n e)) (hi : (P.info? T).map (·.size) = some c.size)
    (h : wpList P ops Q rest (a.put o.dst (.agg c)) w) : wpList P ops Q (o :: rest) a w := by
  refine wpList_load_mid hgd T x ho g 0 hx c.toList (.array n e) ?_ hu rfl (by simpa using hi) (by simpa using h)
  intro j v hv
  rw [Nat.zero_add, cell_of_row w g j c T (0, 0) hb]
  simpa using hv

/-- a whole array into the block that holds one of its size -/
theorem wpList_store_arr {P : Program} {w : World} {ops : Array Oper} {rest : List Oper} {o : Oper} {a : Act} {Q : Exit → Act → World → Prop} (hgd : o.guard = none) (T : TypeId) (x y : Operand) (ho : o.op = .store T x y)
    (g : Nat) (c c' : Array Value) (hx : a.eval x = .pointer (some ⟨g, 0, none⟩)) (hy : a.eval y = .agg c') (hb : w.heap[g]? = some (.cells c T (0, 0))) (hs : c.size = c'.size) (hi : (P.info? T).map (·.size) = some c'.size) (h1 : c'.all (·.oneCell') = true)
    (h : wpList P ops Q rest (a.put o.dst undef) (w.setRow g c')) : wpList P ops Q (o :: rest) a w := by
  refine wpList_plain hgd fun K hK => ?_
  have hv := run_storeVar_row (P := P) w g T T c c' hb hi hs h1
  have hrun : (Instr.storeAt T (.pointer (some ⟨g, 0, none⟩)) (.agg c')).run P w = .ok () (w.setRow g c') := by
    simp only [Instr.storeAt, Instr.sureAddr, Sem.run_bind, Sem.run_pure, Result.andThen]
    exact hv
  unfold Oper.wp
  simp [execOp, ho, hx, hy, hrun, Result.andThen]
  exact hK _ _ h

/-- a new variable of an array's type; the world behind it is a letter -/
theorem wpList_alloc_arr {P : Program} {w : World} {ops : Array Oper} {rest : List Oper} {o : Oper} {a : Act} {Q : Exit → Act → World → Prop} (hgd : o.guard = none) (T : TypeId) (ho : o.op = .alloc T)
    (i : TypeInfo) (z : Value) (hi : P.info? T = some i) (hz : i.zero = some z)
    (h : ∀ w', Hid (w' = w.alloc (.cells z.cells T)) → wpList P ops Q rest (a.put o.dst (.pointer (some ⟨w.heap.size, 0, none⟩))) w') : wpList P ops Q (o :: rest) a w := by
  refine wpList_plain hgd fun K hK => ?_
  unfold Oper.wp
  simp [execOp, ho, Instr.alloc, zeroValue, typeInfo, hi, hz, Result.andThen]
  exact hK _ _ (h _ rfl)

/-- an array that is built; its cells are a term of one's own -/
theorem wpList_build_arr {P : Program} {w : World} {ops : Array Oper} {rest : List Oper} {o : Oper} {a : Act} {Q : Exit → Act → World → Prop} (hgd : o.guard = none) (T : TypeId) (parts : Array (Nat × Operand)) (ho : o.op = .build T parts)
    (vals : Array (Nat × Value)) (hp : (parts.map fun (i, x) => (i, a.eval x)) = vals) (c : Array Value) (hb : P.built T vals.toList = some c)
    (h : wpList P ops Q rest (a.put o.dst (.agg c)) w) : wpList P ops Q (o :: rest) a w := by
  refine wpList_plain hgd fun K hK => ?_
  have hrun := run_build (P := P) w T vals c hb
  unfold Oper.wp
  simp [execOp, ho, hp, hrun, Result.andThen]
  exact hK _ _ h

theorem block_new {w w' : World} {c : Array Value} {T : TypeId} (h : Hid (w' = w.alloc (.cells c T))) : w'.heap[w.heap.size]? = some (.cells c T (0, 0)) ∧ w'.heap.size = w.heap.size + 1 ∧ Below w.heap.size w w' := by
  have e : w' = w.alloc (.cells c T) := h
  subst e
  exact ⟨heap_alloc_new w _, by simp, (Below.refl _ _).alloc (Nat.le_refl _) _⟩

/-- two results, the first an array that lies in memory -/
theorem ret_cell_tmp {P : Program} {fn : Func} {p u : Tmp} {T : TypeId} (h : fn.results = #[.cell p T, .tmp u]) (tmps : Array Value) (w : World) (g : Nat) (c : Array Value) (n : Nat) (e : TypeId)
    (hp : tmps.getD p undef = .pointer (some ⟨g, 0, none⟩)) (hb : w.heap[g]? = some (.cells c T (0, 0))) (hu : P.underlying T = some (.array n e)) (hi : (P.info? T).map (·.size) = some c.size) :
    (results fn tmps).run P w = .ok (.tuple #[.agg c, tmps.getD u undef]) w := by
  rw [results_cell_tmp h, hp]
  have hl := run_loadVar_row (P := P) w g T T c (0, 0) _ hb hu rfl hi
  simp [asAddr, Result.andThen, hl]

/-- one result, an array that lies in memory -/
theorem ret_cell {P : Program} {fn : Func} {p : Tmp} {T : TypeId} (h : fn.results = #[.cell p T]) (tmps : Array Value) (w : World) (g : Nat) (c : Array Value) (n : Nat) (e : TypeId)
    (hp : tmps.getD p undef = .pointer (some ⟨g, 0, none⟩)) (hb : w.heap[g]? = some (.cells c T (0, 0))) (hu : P.underlying T = some (.array n e)) (hi : (P.info? T).map (·.size) = some c.size) :
    (results fn tmps).run P w = .ok (.agg c) w := by
  have hl := run_loadVar_row (P := P) w g T T c (0, 0) _ hb hu rfl hi
  have hp' : tmps[p]?.getD undef = .pointer (some ⟨g, 0, none⟩) := by simpa using hp
  simp [results, h, hp', asAddr, hl]

/-- an array of bytes in memory -/
def Arr8 (w : World) (g : Nat) (T : TypeId) (xs : List Int) : Prop := w.heap[g]? = some (.cells (xs.map (Value.int .u8)).toArray T (0, 0))

theorem Arr8.cell {w : World} {g : Nat} {T : TypeId} {xs : List Int} (h : Arr8 w g T xs) (j : Nat) (hj : j < xs.length) : w.cell? ⟨g, j, none⟩ = some (.int .u8 (xs.getD j 0)) := by
  rw [cell_of_row w g j _ T (0, 0) h]
  simp [List.getD, hj]

theorem Arr8.free {w : World} {g : Nat} {T : TypeId} {xs : List Int} (h : Arr8 w g T xs) (j : Nat) : w.frozen? ⟨g, j, none⟩ = false := frozen_of_row w g j _ T h

theorem Arr8.set {w : World} {g : Nat} {T : TypeId} {xs : List Int} (h : Arr8 w g T xs) (j : Nat) (x : Int) : Arr8 (w.setCell ⟨g, j, none⟩ (.int .u8 x)) g T (xs.set j x) := by
  have := heap_setCell_same w g j _ T (.int .u8 x) h
  unfold Arr8
  rw [this]
  simp [List.map_set]

theorem bytes_one (xs : List Int) : (xs.map (Value.int .u8)).toArray.all (·.oneCell') = true :=
  all_oneCell_toArray (by intro v hv; obtain ⟨n, _, rfl⟩ := List.mem_map.1 hv; rfl)

theorem take_set_next (xs : List Int) (t : Nat) (x : Int) (h : t < xs.length) : (xs.set t x).take (t + 1) = xs.take t ++ [x] := by
  rw [List.take_succ_eq_append_getElem (by simpa using h), List.take_set_of_le (Nat.le_refl t)]
  simp
end Go.Proofs.YtjgjebohbgbimaaDoor

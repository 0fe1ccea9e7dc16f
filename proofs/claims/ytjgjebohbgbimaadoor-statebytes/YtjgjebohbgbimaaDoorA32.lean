/-
  Arrays of bytes compared as values; no conditions.
  The laws for whole arrays at operations that stand behind a test; no conditions.
  A Hash in memory: its state, its block, how many bytes it has taken; New, Copy, bytesOf; conditions: the package's variable start.
-/
import Derived.Test.YtjgjebohbgbimaaDoorA28
import Derived.Laws.StructEq
import Derived.Test.YtjgjebohbgbimaaDoorA29
import Derived.Deep.MidRow
import Derived.Test.YtjgjebohbgbimaaDoorA31
set_option linter.unusedVariables false
set_option linter.unusedSimpArgs false
namespace Go.Proofs.YtjgjebohbgbimaaDoor
open Go.RowKit

theorem all_range_ints : ∀ (xs ys : List Int), xs.length = ys.length → ((List.range xs.length).all fun i => xs.getD i 0 == ys.getD i 0) = decide (xs = ys)
  | [], [], _ => rfl
  | x :: xs, y :: ys, h => by
    have ih := all_range_ints xs ys (by simpa using h)
    rw [List.length_cons, List.range_succ_eq_map, List.all_cons, List.all_map]
    simp only [List.getD_cons_zero, Function.comp_def, List.getD_cons_succ, ih]
    rw [Bool.eq_iff_iff]
    simp
  | [], _ :: _, h => by simp at h
  | _ :: _, [], h => by simp at h

theorem run_equalIn_arr8 {P : Program} (w : World) (d : Nat) (t e : TypeId) (n : Nat) (ht : P.underlying t = some (.array n e)) (he : P.underlying e = some (.int .u8)) (hsz : ∀ w, (sizeOf e).run P w = .ok 1 w)
    (xs ys : List Int) (hx : xs.length = n) (hy : ys.length = n) :
    (Op.equalIn (d + 2) t (.agg (xs.map (Value.int .u8)).toArray) (.agg (ys.map (Value.int .u8)).toArray)).run P w = .ok (decide (xs = ys)) w := by
  rw [← all_range_ints xs ys (hx.trans hy.symm), hx, List.range_eq_range', Op.equalIn]
  simp only [Sem.run_bind, run_underlying ht, Result.andThen_ok, hsz, Std.Legacy.Range.forIn_eq_forIn_range', Std.Legacy.Range.size, Nat.sub_zero, Nat.add_sub_cancel, Nat.div_one]
  have hl : ∀ i ∈ List.range' 0 n 1, i < n := fun i hi => by simpa using (List.mem_range'_1.1 hi).2
  generalize List.range' 0 n 1 = l at hl ⊢
  induction l with
  | nil => simp
  | cons i l ih =>
    have hi : i < n := hl i (by simp)
    have px : (part e (xs.map (Value.int .u8)).toArray (i * 1)).run P w = .ok (.int .u8 (xs.getD i 0)) w := by
      simp [part, isAgg, run_underlying he, List.getD, List.getElem?_eq_getElem (show i < xs.length by omega)]
    have py : (part e (ys.map (Value.int .u8)).toArray (i * 1)).run P w = .ok (.int .u8 (ys.getD i 0)) w := by
      simp [part, isAgg, run_underlying he, List.getD, List.getElem?_eq_getElem (show i < ys.length by omega)]
    have pe := run_equalIn_int (P := P) w d e .u8 .u8 (xs.getD i 0) (ys.getD i 0) he
    simp only [List.forIn_cons, Sem.run_bind, px, py, pe, Result.andThen_ok, List.all_cons]
    cases hb : (xs.getD i 0 == ys.getD i 0)
    · simp
    · simp only [Bool.not_true, Bool.false_eq_true, if_false, Sem.run_pure, Result.andThen_ok, Bool.true_and]
      exact ih fun j hj => hl j (by simp [hj])

theorem size_one {P : Program} {e : TypeId} (h : (P.info? e).map (·.size) = some 1) (w : World) : (sizeOf e).run P w = .ok 1 w := by
  cases hq : P.info? e with
  | none => rw [hq] at h; cases h
  | some i => rw [hq] at h; simp at h; simp [sizeOf, typeInfo, hq, h, Result.andThen]

/-- two arrays of bytes: are they one? -/
theorem wpList_eql_arr {P : Program} {w : World} {ops : Array Oper} {rest : List Oper} {o : Oper} {a : Act} {Q : Exit → Act → World → Prop} (hgd : o.guard = none) (T T' : TypeId) (x y : Operand) (ho : o.op = .binOp .eql T x y T')
    (xs ys : List Int) (n : Nat) (e : TypeId) (hx : a.eval x = .agg (xs.map (Value.int .u8)).toArray) (hy : a.eval y = .agg (ys.map (Value.int .u8)).toArray) (hm : P.eqGuardType P.depth T = false)
    (ht : P.underlying T = some (.array n e)) (he : P.underlying e = some (.int .u8)) (hsz : (P.info? e).map (·.size) = some 1) (lx : xs.length = n) (ly : ys.length = n)
    (h : wpList P ops Q rest (a.put o.dst (.bool (decide (xs = ys)))) w) : wpList P ops Q (o :: rest) a w := by
  refine wpList_plain hgd fun K hK => ?_
  have h1 := run_eqGuard_agg (P := P) w .eql T x y (xs.map (Value.int .u8)).toArray (ys.map (Value.int .u8)).toArray hm
  have h2 := run_eql_struct (P := P) w T (xs.map (Value.int .u8)).toArray (ys.map (Value.int .u8)).toArray
  rw [run_equalIn_arr8 w 9998 T e n ht he (size_one hsz) xs ys lx ly] at h2
  unfold Oper.wp
  simp [execOp, ho, hx, hy, h1, h2, Result.andThen]
  exact hK _ _ h

/-- two arrays of bytes: are they not one? -/
theorem wpList_neq_arr {P : Program} {w : World} {ops : Array Oper} {rest : List Oper} {o : Oper} {a : Act} {Q : Exit → Act → World → Prop} (hgd : o.guard = none) (T T' : TypeId) (x y : Operand) (ho : o.op = .binOp .neq T x y T')
    (xs ys : List Int) (n : Nat) (e : TypeId) (hx : a.eval x = .agg (xs.map (Value.int .u8)).toArray) (hy : a.eval y = .agg (ys.map (Value.int .u8)).toArray) (hm : P.eqGuardType P.depth T = false)
    (ht : P.underlying T = some (.array n e)) (he : P.underlying e = some (.int .u8)) (hsz : (P.info? e).map (·.size) = some 1) (lx : xs.length = n) (ly : ys.length = n)
    (h : wpList P ops Q rest (a.put o.dst (.bool (!decide (xs = ys)))) w) : wpList P ops Q (o :: rest) a w := by
  refine wpList_plain hgd fun K hK => ?_
  have h1 := run_eqGuard_agg (P := P) w .neq T x y (xs.map (Value.int .u8)).toArray (ys.map (Value.int .u8)).toArray hm
  have h2 := run_neq_struct (P := P) w T (xs.map (Value.int .u8)).toArray (ys.map (Value.int .u8)).toArray
  rw [run_equalIn_arr8 w 9998 T e n ht he (size_one hsz) xs ys lx ly] at h2
  unfold Oper.wp
  simp [execOp, ho, hx, hy, h1, h2, Result.andThen]
  exact hK _ _ h
end Go.Proofs.YtjgjebohbgbimaaDoor

namespace Go.Proofs.YtjgjebohbgbimaaDoor
open Go.RowKit

theorem wpList_wanted {P : Program} {w : World} {ops : Array Oper} {rest : List Oper} {o : Oper} {a : Act} {Q : Exit → Act → World → Prop} (hw : Region.wanted o (yielded ops a.tmps) = true)
    (h : ∀ K : Act → World → Prop, (∀ a w, wpList P ops Q rest a w → K a w) → o.wp P a w K Q) : wpList P ops Q (o :: rest) a w :=
  wpList_step fun K hK => by rw [if_pos hw]; exact h K hK

theorem wpList_load_arrG {P : Program} {w : World} {ops : Array Oper} {rest : List Oper} {o : Oper} {a : Act} {Q : Exit → Act → World → Prop} (hw : Region.wanted o (yielded ops a.tmps) = true) (T : TypeId) (x : Operand) (ho : o.op = .load T x)
    (g : Nat) (c : Array Value) (n : Nat) (e : TypeId) (hx : a.eval x = .pointer (some ⟨g, 0, none⟩)) (hb : w.heap[g]? = some (.cells c T (0, 0))) (hu : P.underlying T = some (.array n e)) (hi : (P.info? T).map (·.size) = some c.size)
    (h : wpList P ops Q rest (a.put o.dst (.agg c)) w) : wpList P ops Q (o :: rest) a w := by
  refine wpList_wanted hw fun K hK => ?_
  refine wp_load_mid T x ho g 0 hx c.toList (.array n e) ?_ hu rfl (by simpa using hi) (hK _ _ (by simpa using h))
  intro j v hv
  rw [Nat.zero_add, cell_of_row w g j c T (0, 0) hb]
  simpa using hv

theorem wpList_eql_arrG {P : Program} {w : World} {ops : Array Oper} {rest : List Oper} {o : Oper} {a : Act} {Q : Exit → Act → World → Prop} (hw : Region.wanted o (yielded ops a.tmps) = true) (T T' : TypeId) (x y : Operand) (ho : o.op = .binOp .eql T x y T')
    (xs ys : List Int) (n : Nat) (e : TypeId) (hx : a.eval x = .agg (xs.map (Value.int .u8)).toArray) (hy : a.eval y = .agg (ys.map (Value.int .u8)).toArray) (hm : P.eqGuardType P.depth T = false)
    (ht : P.underlying T = some (.array n e)) (he : P.underlying e = some (.int .u8)) (hsz : (P.info? e).map (·.size) = some 1) (lx : xs.length = n) (ly : ys.length = n) (v : Bool) (hv : v = decide (xs = ys))
    (h : wpList P ops Q rest (a.put o.dst (.bool v)) w) : wpList P ops Q (o :: rest) a w := by
  refine wpList_wanted hw fun K hK => ?_
  have h1 := run_eqGuard_agg (P := P) w .eql T x y (xs.map (Value.int .u8)).toArray (ys.map (Value.int .u8)).toArray hm
  have h2 := run_eql_struct (P := P) w T (xs.map (Value.int .u8)).toArray (ys.map (Value.int .u8)).toArray
  rw [run_equalIn_arr8 w 9998 T e n ht he (size_one hsz) xs ys lx ly] at h2
  unfold Oper.wp
  simp [execOp, ho, hx, hy, h1, h2, Result.andThen, ← hv]
  exact hK _ _ h

theorem wpList_neq_arrG {P : Program} {w : World} {ops : Array Oper} {rest : List Oper} {o : Oper} {a : Act} {Q : Exit → Act → World → Prop} (hw : Region.wanted o (yielded ops a.tmps) = true) (T T' : TypeId) (x y : Operand) (ho : o.op = .binOp .neq T x y T')
    (xs ys : List Int) (n : Nat) (e : TypeId) (hx : a.eval x = .agg (xs.map (Value.int .u8)).toArray) (hy : a.eval y = .agg (ys.map (Value.int .u8)).toArray) (hm : P.eqGuardType P.depth T = false)
    (ht : P.underlying T = some (.array n e)) (he : P.underlying e = some (.int .u8)) (hsz : (P.info? e).map (·.size) = some 1) (lx : xs.length = n) (ly : ys.length = n) (v : Bool) (hv : v = decide (xs = ys))
    (h : wpList P ops Q rest (a.put o.dst (.bool (!v))) w) : wpList P ops Q (o :: rest) a w := by
  refine wpList_wanted hw fun K hK => ?_
  have h1 := run_eqGuard_agg (P := P) w .neq T x y (xs.map (Value.int .u8)).toArray (ys.map (Value.int .u8)).toArray hm
  have h2 := run_neq_struct (P := P) w T (xs.map (Value.int .u8)).toArray (ys.map (Value.int .u8)).toArray
  rw [run_equalIn_arr8 w 9998 T e n ht he (size_one hsz) xs ys lx ly] at h2
  unfold Oper.wp
  simp [execOp, ho, hx, hy, h1, h2, Result.andThen, ← hv]
  exact hK _ _ h
end Go.Proofs.YtjgjebohbgbimaaDoor

namespace Go.Proofs.YtjgjebohbgbimaaDoor
open Go.RowKit

/-- the cells of a Hash -/
def hc (st bf : List Int) (n : Nat) : List Value := st.map (Value.int .u32) ++ (bf.map (Value.int .u8) ++ [.int .u64 n])

/-- a Hash in memory -/
def Hsh (w : World) (g : Nat) (st bf : List Int) (n : Nat) : Prop := w.heap[g]? = some (.cells (hc st bf n).toArray 74 (0, 0))

theorem hc_len {st bf : List Int} {n : Nat} (h1 : st.length = 8) (h2 : bf.length = 64) : (hc st bf n).length = 73 := by simp [hc, h1, h2]
theorem hc_one (st bf : List Int) (n : Nat) : (hc st bf n).toArray.all (·.oneCell') = true :=
  all_oneCell_toArray (by
    intro v hv
    simp only [hc, List.mem_append, List.mem_map, List.mem_singleton] at hv
    rcases hv with ⟨_, _, rfl⟩ | ⟨_, _, rfl⟩ | rfl <;> rfl)

def H0 : List Int := [1779033703, 3144134277, 1013904242, 2773480762, 1359893119, 2600822924, 528734635, 1541459225]
theorem H0_len : H0.length = 8 := rfl
theorem H0_bounds : ∀ y ∈ H0, 0 ≤ y ∧ y ≤ 4294967295 := by decide

def zh : Array Value := (hc (List.replicate 8 0) (List.replicate 64 0) 0).toArray
theorem zih : ∃ i, Tryd.prog.info? 74 = some i ∧ i.zero = some (.agg zh) := zinfo (by kernel_rfl)
theorem szh : (Tryd.prog.info? 74).map (·.size) = some 73 := by kernel_rfl
theorem szh' {st bf : List Int} {n : Nat} (h1 : st.length = 8) (h2 : bf.length = 64) : (Tryd.prog.info? 74).map (·.size) = some (hc st bf n).toArray.size := by
  rw [show (hc st bf n).toArray.size = 73 by simpa using hc_len h1 h2]
  exact szh

set_option maxRecDepth 100000 in
set_option maxHeartbeats 400000 in
theorem new_any {t0 : TypeId} (w : World) (h0 : Words w 0 t0 H0) :
    Calls Tryd.prog 34 #[] w fun e w' => e = .returned (.pointer (some ⟨w.heap.size, 0, none⟩)) ∧ Made w w' (hc H0 (List.replicate 64 0) 0).toArray 74 := by
  have H0' := hide h0
  have hsp := hide (sizeW (T := 63) sw8 H0_len)
  have hfold : List.foldl (fun (cs : Array Value) (x : Value × Nat) => cs.setIfInBounds x.snd x.fst) zh (H0.map (Value.int .u32)).zipIdx = (hc H0 (List.replicate 64 0) 0).toArray := by kernel_rfl
  have hz57 : ∀ w, Sem.run Tryd.prog (zeroValue 74) w = .ok (.agg zh) w := by
    intro w
    obtain ⟨i0, hi, hz⟩ := zih
    simp [zeroValue, typeInfo, hi, hz, Result.andThen]
  have hL : H0.length = 8 := rfl
  have hzs : zh.size = 73 := by decide
  clear h0
  have tokA : True := trivial
  generalize H0 = L at *
  generalize (hc L (List.replicate 64 0) 0).toArray = C at *
  generalize zh = Z at *
  go_enter Tryd.func34, Tryd.ntmps34
  go_wp2_with (first
    | (have _t := tokA; refine wpList_load_tbl rfl 63 (.global 0) rfl 0 (L.map (Value.int .u32)).toArray 8 _ t0 rfl (unhide H0') Tryd.underlying63 (unhide hsp) ?_; clear tokA))
  go_ret
  exact ⟨rfl, Made.mk'⟩

theorem zh_size {st bf : List Int} {n : Nat} (h1 : st.length = 8) (h2 : bf.length = 64) : zh.size = (hc st bf n).toArray.size := by
  have := hc_len (n := n) h1 h2
  simp only [List.size_toArray, this]
  rfl

/-- a digest's byte i -/
def byteI (st : List Int) (i : Nat) : Int := st.getD (i / 4) 0 / 2 ^ (24 - 8 * (i % 4)) % 256

def bytesL (st : List Int) : List Int := (List.range 32).map (byteI st)

theorem bytesL_len (st : List Int) : (bytesL st).length = 32 := by simp [bytesL]
theorem bytesL_bounds (st : List Int) : ∀ y ∈ bytesL st, 0 ≤ y ∧ y ≤ 255 := by
  intro y hy
  obtain ⟨i, _, rfl⟩ := List.mem_map.1 hy
  unfold byteI
  omega

set_option maxRecDepth 100000 in
set_option maxHeartbeats 1000000 in
theorem bytesOf_any (st : List Int) (w : World) (h1 : st.length = 8) (hb : ∀ y ∈ st, 0 ≤ y ∧ y ≤ 4294967295) :
    Calls Tryd.prog 48 #[.agg (st.map (Value.int .u32)).toArray] w fun e w' => e = .returned (.agg ((bytesL st).map (Value.int .u8)).toArray) ∧ Below w.heap.size w w' := by
  obtain ⟨i0, hi, hz⟩ := zi32
  obtain ⟨w1, hw1⟩ : ∃ w1, w.alloc (.cells (st.map (Value.int .u32)).toArray 63) = w1 := ⟨_, rfl⟩
  have M1 : Hid (Made w w1 (st.map (Value.int .u32)).toArray 63) := hide (by rw [← hw1]; exact Made.mk')
  have z1 : w1.heap.size = w.heap.size + 1 := (unhide M1).size
  have HB := hide hb
  have HL := hide h1
  clear hb h1
  have tokA : True := trivial
  have tokB : True := trivial
  go_enter Tryd.func48, Tryd.ntmps48
  go_wp2_with (first
    | (have _t := tokA; refine wpList_new_arr rfl 29 rfl i0 zb32 hi hz ?_; intro w2 M2; clear tokA; have z2 : w2.heap.size = w.heap.size + 1 + 1 := (by rw [(unhide M2).size, z1]))
    | (have _t := tokB; refine wpList_new_arr rfl 29 rfl i0 zb32 hi hz ?_; intro w3 M3; clear tokB; have z3 : w3.heap.size = w.heap.size + 1 + 1 + 1 := (by rw [(unhide M3).size, z2])))
  have A3 : Hid (Arr8 w3 (w.heap.size + 1 + 1) 29 (List.replicate 32 0)) := hide (by rw [← z2]; exact (unhide M3).at')
  have R3 : Hid (w3.heap[w.heap.size + 1]? = some (.cells zb32 29 (0, 0))) := hide (((unhide M3).below.block _ (by omega)).trans (by rw [← z1]; exact (unhide M2).at'))
  have S3 : Hid (Words w3 w.heap.size 63 st) := hide (((unhide M3).below.block _ (by omega)).trans (((unhide M2).below.block _ (by omega)).trans (unhide M1).at'))
  have B3 : Hid (Below w.heap.size w w3) := hide (((unhide M1).below.trans ((unhide M2).below.mono (by omega))).trans ((unhide M3).below.mono (by omega)))
  clear M1 M2 M3 hw1
  go_loopw [5] (fun x wr => ∃ (i : Nat) (xs : List Int), i ≤ 32 ∧ x = .int .i64 i ∧ Hid (Arr8 wr (w.heap.size + 1 + 1) 29 xs) ∧ Hid (wr.heap[w.heap.size + 1]? = some (.cells zb32 29 (0, 0))) ∧ Hid (Words wr w.heap.size 63 st) ∧ Hid (Below w.heap.size w wr) ∧ Hid (xs.length = 32 ∧ xs.take i = (List.range i).map (byteI st))) (fun x _ => 32 - (intOf x).toNat)
  case atStart => exact ⟨0, List.replicate 32 0, by omega, rfl, A3, R3, S3, B3, hide ⟨rfl, rfl⟩⟩
  case round =>
    clear A3 R3 S3 B3
    obtain ⟨i, xs, hi32, rfl, HX, HZ, HS, HBel, HXL⟩ := hrel
    by_cases hlt : i < 32
    · have hl := unhide HL
      have c1 := (unhide HS).cell (i / 4) (by omega)
      have ct := (unhide HX).cell i (by have := (unhide HXL).1; omega)
      have cf := (unhide HX).free i
      have hx := getD_bounds (unhide HB) (by omega) (i / 4)
      have hbyte : byteI st i = st.getD (i / 4) 0 / 2 ^ (24 - 8 * (i % 4)) % 256 := rfl
      obtain ⟨j, hj⟩ : ∃ j, i / 4 = j := ⟨_, rfl⟩
      obtain ⟨r, hr⟩ : ∃ r, i % 4 = r := ⟨_, rfl⟩
      obtain ⟨k, hk⟩ : ∃ k : Nat, 24 - 8 * r = k := ⟨_, rfl⟩
      rw [hj, hr, hk] at hbyte
      rw [hj] at c1 hx
      generalize st.getD j 0 = x at *
      generalize xs.getD i 0 = y0 at *
      have q2 : (i : Int).tdiv 4 = (j : Int) := by rw [Int.tdiv_eq_ediv_of_nonneg (by omega)]; omega
      have q1 : (i : Int) / 4 = (j : Int) := by omega
      have q3 : (i : Int).tmod 4 = (r : Int) := by rw [Int.tmod_eq_emod_of_nonneg (by omega)]; omega
      have q3' : (i : Int) % 4 = (r : Int) := by omega
      have q4 : 24 - 8 * (r : Int) = (k : Int) := by omega
      have q5 : IntKind.i64.wrap (24 - 8 * (r : Int)) = (k : Int) := by rw [IntKind.wrap_i64]; omega
      have q6 : (j : Int) < 8 := by omega
      have q7 : (0 : Int) ≤ (j : Int) := by omega
      have q8 : (k : Int) ≤ 24 := by omega
      have q9 : (0 : Int) ≤ (k : Int) := by omega
      have i1 : (i : Int) < 32 := by omega
      have i2 : (0 : Int) ≤ (i : Int) := by omega
      have HBY := hide hbyte
      clear hl hj hr hk hbyte
      have HX' := hide ((unhide HX).set i (x / 2 ^ k % 256))
      have HZ' : Hid ((wr.setCell ⟨w.heap.size + 1 + 1, i, none⟩ (.int .u8 (x / 2 ^ k % 256))).heap[w.heap.size + 1]? = some (.cells zb32 29 (0, 0))) := hide (by rw [heap_setCell_other _ _ _ _ (by simp)]; exact unhide HZ)
      have HS' : Hid (Words (wr.setCell ⟨w.heap.size + 1 + 1, i, none⟩ (.int .u8 (x / 2 ^ k % 256))) w.heap.size 63 st) := hide (by unfold Words; rw [heap_setCell_other _ _ _ _ (by simp; omega)]; exact unhide HS)
      have HB' := hide ((unhide HBel).setCell (p := ⟨w.heap.size + 1 + 1, i, none⟩) (by simp; omega) (.int .u8 (x / 2 ^ k % 256)))
      have HL' : Hid ((xs.set i (x / 2 ^ k % 256)).length = 32 ∧ (xs.set i (x / 2 ^ k % 256)).take (i + 1) = (List.range (i + 1)).map (byteI st)) := hide ⟨by simpa using (unhide HXL).1, by
        rw [take_set_next _ _ _ (by have := (unhide HXL).1; omega), (unhide HXL).2, List.range_succ, List.map_append, List.map_singleton, unhide HBY]⟩
      go_wp2_with fail
      go_roundw
      case rel => exact ⟨i + 1, _, by omega, by go_num, HX', HZ', HS', HB', HL'⟩
      case measure => simp [intOf]; omega
    · have hi' : i = 32 := by omega
      subst hi'
      have hxs : xs = bytesL st := by
        have h := (unhide HXL).2
        rw [List.take_of_length_le (by have := (unhide HXL).1; omega)] at h
        exact h
      subst hxs
      have hsp := hide (sizeB (T := 29) sb32 (bytesL_len st))
      have HL8 := hide (bytesL_len st)
      have tokF : True := trivial
      have tokG : True := trivial
      obtain ⟨R, HR⟩ : ∃ R, Hid (bytesL st = R) := ⟨_, rfl⟩
      rw [unhide HR] at hsp HL8 HX
      go_wp2_with (first
        | (have _t := tokF; refine wpList_load_arr rfl 29 (.tmp 3) rfl (w.heap.size + 1 + 1) (R.map (Value.int .u8)).toArray 32 _ rfl (unhide HX) Tryd.underlying29 (unhide hsp) ?_; clear tokF)
        | (have _t := tokG; refine wpList_put_arr rfl 29 (.tmp 2) (.tmp 21) rfl (w.heap.size + 1) zb32 (R.map (Value.int .u8)).toArray rfl rfl (unhide HZ) (by simp [zb32, unhide HL8]) (unhide hsp) (bytes_one _) ?_; intro w9 H9; clear tokG))
      exact bodyPost_ret (ret_cell (p := 2) (T := 29) rfl _ _ (w.heap.size + 1) (R.map (Value.int .u8)).toArray 32 _ rfl (unhide H9).at' Tryd.underlying29 (unhide hsp)) rfl ⟨by rw [unhide HR], (unhide H9).below w.heap.size w (unhide HBel) (by omega)⟩
end Go.Proofs.YtjgjebohbgbimaaDoor

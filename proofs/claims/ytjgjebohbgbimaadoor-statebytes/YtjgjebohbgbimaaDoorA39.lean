/-
  Bytes made of a text; texts as lists of numbers; no conditions.
  What a Hash in memory has taken, in one piece; New, Copy, Write, Sum said by it; conditions: the package's variables, no more than 2 to the 63 bytes.
  Append of bytes onto a row of the call's own, nil or not; no conditions but the form's own reach.
-/
import Derived.Test.YtjgjebohbgbimaaDoorA33
import Derived.Test.YtjgjebohbgbimaaDoorA32
import Derived.Test.YtjgjebohbgbimaaDoorA28
import Derived.Lib.ConvBytes
import Derived.Laws.AppendOwn
import Derived.Test.YtjgjebohbgbimaaDoorA36
import Derived.Deep.AppendLies
import Derived.Laws.AppendOwnNone
set_option linter.unusedVariables false
set_option linter.unusedSimpArgs false
namespace Go.Proofs.YtjgjebohbgbimaaDoor
open Go.RowKit

/-- the bytes of a text -/
def txt (s : ByteArray) : List Int := s.data.toList.map fun b => (b.toNat : Int)

theorem txt_len (s : ByteArray) : (txt s).length = s.size := by
  unfold txt
  rw [List.length_map, Array.length_toList]
  rfl

theorem txt_bounds (s : ByteArray) : ∀ y ∈ txt s, 0 ≤ y ∧ y ≤ 255 := by
  intro y hy
  obtain ⟨b, _, rfl⟩ := List.mem_map.1 hy
  have := b.toNat_lt
  omega

theorem txt_at (s : ByteArray) (k : Nat) (h : k < s.size) : ((s.data.toList.getD k 0).toNat : Int) = (txt s).getD k 0 := by
  have hl : k < s.data.toList.length := by rw [Array.length_toList]; exact h
  unfold txt
  rw [List.getD_eq_getElem?_getD, List.getD_eq_getElem?_getD, List.getElem?_map, List.getElem?_eq_getElem hl]
  rfl

theorem txt_extract (s : ByteArray) (a b : Nat) : txt (s.extract a b) = ((txt s).take b).drop a := by
  unfold txt
  rw [ByteArray.data_extract, Array.toList_extract, List.extract_eq_take_drop, List.map_take, List.map_drop, List.drop_take]

theorem txt_append (s t : ByteArray) : txt (s ++ t) = txt s ++ txt t := by
  unfold txt
  rw [ByteArray.data_append, Array.toList_append, List.map_append]

theorem bytesWorld_below (w : World) (e : TypeId) (s : ByteArray) : Below w.heap.size w (Lib.bytesWorld w e s) :=
  ⟨by simp only [Lib.bytesWorld, World.freeze]; rfl, by simp only [Lib.bytesWorld, World.freeze]; rfl, by simp only [Lib.bytesWorld, World.freeze]; rfl, by rw [Lib.bytesWorld_size]; omega, fun k hk => Lib.bytesWorld_at_old w e s k hk⟩

/-- a row of bytes that was made of a text -/
structure Fresh (w w' : World) (s : ByteArray) (cap : Nat) : Prop where
  below : Below w.heap.size w w'
  size : w'.heap.size = w.heap.size + 1
  room : s.size ≤ cap
  cells : ∀ j, j < s.size → w'.cell? ⟨w.heap.size, j, none⟩ = some (.int .u8 ((txt s).getD j 0))

theorem fresh_of (w : World) (e : TypeId) (s : ByteArray) : Fresh w (Lib.bytesWorld w e s) s (grownCap w s.size 0 e) :=
  ⟨bytesWorld_below w e s, Lib.bytesWorld_size w e s, grownCap_ge w s.size 0 e, fun j hj => by rw [Lib.bytesWorld_cell w e s j hj, txt_at s j hj]⟩

theorem wpList_bytes_of {P : Program} {w : World} {ops : Array Oper} {rest : List Oper} {o : Oper} {a : Act} {Q : Exit → Act → World → Prop} (hw : Region.wanted o (yielded ops a.tmps) = true) (src dst e : TypeId) (x : Operand) (ho : o.op = .convert src dst x) (s : ByteArray) (hx : a.eval x = .string s)
    (hs : P.underlying src = some .string) (hd : P.underlying dst = some (.slice e)) (he : P.underlying e = some (.int .u8))
    (h : ∀ w' cap, Hid (Fresh w w' s cap) → wpList P ops Q rest (a.put o.dst (.slice (some ⟨w.heap.size, 0, none⟩) s.size cap)) w') : wpList P ops Q (o :: rest) a w := by
  refine wpList_step fun K hK => ?_
  rw [if_pos hw]
  have hr := Lib.run_convert_string_bytes (P := P) w src dst e s hs hd he
  unfold Oper.wp
  simp [execOp, ho, hx, hr, Result.andThen]
  exact hK _ _ (h _ _ (fresh_of w e s))

/-- .. as a step of a region that draws -/
theorem step_bytes_of {P : Program} {w : World} {ops : Array Oper} {o : Oper} {a : Act} {K : Act → World → Prop} {Q : Exit → Act → World → Prop} {E : Prop} (hw : Region.wanted o (yielded ops a.tmps) = true) (d : Option Tmp) (hdst : o.dst = d) (src dst e : TypeId) (x : Operand) (ho : o.op = .convert src dst x) (s : ByteArray) (hx : a.eval x = .string s)
    (hs : P.underlying src = some .string) (hd : P.underlying dst = some (.slice e)) (he : P.underlying e = some (.int .u8))
    (h : ∀ w' cap, Hid (Fresh w w' s cap) → K (a.put d (.slice (some ⟨w.heap.size, 0, none⟩) s.size cap)) w') : if Region.wanted o (yielded ops a.tmps) = true then Oper.wp P o a w K Q else E := by
  rw [if_pos hw]
  subst hdst
  have hr := Lib.run_convert_string_bytes (P := P) w src dst e s hs hd he
  unfold Oper.wp
  simp [execOp, ho, hx, hr, Result.andThen]
  exact h _ _ (fresh_of w e s)

/-- are two arrays of bytes not one? wherever it is asked -/
theorem yields_neq_arr {P : Program} {ops : Array Oper} {S : World → Prop} {o : Oper} {a : Act} (hw : Region.wanted o (yielded ops a.tmps) = true) (T T' : TypeId) (x y : Operand) (ho : o.op = .binOp .neq T x y T')
    (xs ys : List Int) (n : Nat) (e : TypeId) (hx : a.eval x = .agg (xs.map (Value.int .u8)).toArray) (hy : a.eval y = .agg (ys.map (Value.int .u8)).toArray) (hm : P.eqGuardType P.depth T = false)
    (ht : P.underlying T = some (.array n e)) (he : P.underlying e = some (.int .u8)) (hsz : (P.info? e).map (·.size) = some 1) (lx : xs.length = n) (ly : ys.length = n) : YieldsIf P ops S o (.bool (!decide (xs = ys))) a :=
  .inl ⟨hw, fun w _ => by
    have h1 := run_eqGuard_agg (P := P) w .neq T x y (xs.map (Value.int .u8)).toArray (ys.map (Value.int .u8)).toArray hm
    have h2 := run_neq_struct (P := P) w T (xs.map (Value.int .u8)).toArray (ys.map (Value.int .u8)).toArray
    rw [run_equalIn_arr8 w 9998 T e n ht he (size_one hsz) xs ys lx ly] at h2
    simp [execOp, ho, hx, hy, h1, h2, Result.andThen]⟩

/-- are two arrays of bytes one? wherever it is asked -/
theorem yields_eql_arr {P : Program} {ops : Array Oper} {S : World → Prop} {o : Oper} {a : Act} (hw : Region.wanted o (yielded ops a.tmps) = true) (T T' : TypeId) (x y : Operand) (ho : o.op = .binOp .eql T x y T')
    (xs ys : List Int) (n : Nat) (e : TypeId) (hx : a.eval x = .agg (xs.map (Value.int .u8)).toArray) (hy : a.eval y = .agg (ys.map (Value.int .u8)).toArray) (hm : P.eqGuardType P.depth T = false)
    (ht : P.underlying T = some (.array n e)) (he : P.underlying e = some (.int .u8)) (hsz : (P.info? e).map (·.size) = some 1) (lx : xs.length = n) (ly : ys.length = n) : YieldsIf P ops S o (.bool (decide (xs = ys))) a :=
  .inl ⟨hw, fun w _ => by
    have h1 := run_eqGuard_agg (P := P) w .eql T x y (xs.map (Value.int .u8)).toArray (ys.map (Value.int .u8)).toArray hm
    have h2 := run_eql_struct (P := P) w T (xs.map (Value.int .u8)).toArray (ys.map (Value.int .u8)).toArray
    rw [run_equalIn_arr8 w 9998 T e n ht he (size_one hsz) xs ys lx ly] at h2
    simp [execOp, ho, hx, hy, h1, h2, Result.andThen]⟩
end Go.Proofs.YtjgjebohbgbimaaDoor

namespace Go.Proofs.YtjgjebohbgbimaaDoor
open Go.RowKit

def Pkg (w : World) (t0 tK : TypeId) (ks : List Int) : Prop := ks.length = 64 ∧ Words w 0 t0 H0 ∧ Words w 1 tK ks

theorem Pkg.lt {w : World} {t0 tK : TypeId} {ks : List Int} (h : Pkg w t0 tK ks) : 1 < w.heap.size := (Array.getElem?_eq_some_iff.1 h.2.2).1

theorem Pkg.later {B : Nat} {w w' : World} {t0 tK : TypeId} {ks : List Int} (h : Pkg w t0 tK ks) (hb : Below B w w') (hB : 1 < B) : Pkg w' t0 tK ks :=
  ⟨h.1, (hb.block 0 (by omega)).trans h.2.1, (hb.block 1 hB).trans h.2.2⟩
end Go.Proofs.YtjgjebohbgbimaaDoor

namespace Go.Proofs.YtjgjebohbgbimaaDoor
open Go.RowKit

theorem infoU8' : (Tryd.prog.info? 5).map (fun i => (i.zero, i.size, i.bytes)) = some (some (.int .u8 0), 1, 1) := by kernel_rfl

/-- where the bytes to be laid behind lie -/
structure Src (w : World) (ao : Option Addr) (m c : Nat) (rs : List Int) : Prop where
  length : rs.length = m
  none : ao = none → m = 0 ∧ c = 0
  cells : ∀ ad, ao = some ad → ∀ j u, (rs.map (Value.int .u8))[j]? = some u → w.cell? (ad.add j) = some u

theorem app_own {w : World} {ops : Array Oper} {rest : List Oper} {o : Oper} {a : Act} {Q : Exit → Act → World → Prop} (hgd : o.guard = none) (sl x : Operand)
    (ho : o.op = .call { callee := .builtin .append, args := #[sl, x], argTypes := #[25, 25] })
    (base n : Nat) (v : Value) (xs : List Int) (hs : a.eval sl = v) (hown : w.ownsRow base 5 1 v n (xs.map (Value.int .u8)))
    (ao : Option Addr) (m c : Nat) (rs : List Int) (hx : a.eval x = .slice ao m c) (hr : Src w ao m c rs)
    (hbytes : n + m ≤ 140737488355328) (hbase : base ≤ w.heap.size)
    (h : ∀ v' w', Hid (w'.ownsRow base 5 1 v' (n + m) ((xs ++ rs).map (Value.int .u8)) ∧ w.grownBy w' v.ownBlock) → wpList Tryd.prog ops Q rest (a.put o.dst v') w') :
    wpList Tryd.prog ops Q (o :: rest) a w := by
  obtain ⟨i0, hi, hz0, hz1, hz2⟩ := info_parts infoU8'
  have hl := hr.length
  cases ao with
  | none =>
    obtain ⟨rfl, rfl⟩ := hr.none rfl
    have hrs : rs = [] := List.eq_nil_of_length_eq_zero hl
    subst hrs
    refine wpList_append_own_none hgd sl x 25 ho base 5 i0 1 Tryd.underlying25 hi _ n _ hs hown hx ?_
    exact h v w ⟨by simpa using hown, World.grownBy.refl _ _⟩
  | some ad =>
    refine wpList_append_own w hgd sl x 25 ho base 5 i0 (.int .u8 0) 1 1 Tryd.underlying25 hi hz0 hz1 hz2 rfl (by decide) v n _ hs hown ad m c (rs.map (Value.int .u8)) hx (by simp [hl]) (hr.cells ad rfl) (by intro u hu; obtain ⟨y, _, rfl⟩ := List.mem_map.1 hu; rfl) (by unfold maxLen; omega) (by omega) hbase ?_
    intro v' w' hown' hgrow _
    exact h v' w' ⟨by rw [List.map_append]; exact hown', hgrow⟩

/-- one byte that was just laid -/
theorem src_one (w : World) (x : Int) : Src (w.alloc (.cells #[.int .u8 x] 5)) (some ⟨w.heap.size, 0, none⟩) 1 1 [x] := by
  refine ⟨rfl, (fun e => by cases e), fun ad ha j u hj => ?_⟩
  cases ha
  have hj0 : j = 0 := by
    have := (List.getElem?_eq_some_iff.1 hj).1
    simpa using this
  subst hj0
  rw [Addr.add_mid, cell_of_row _ w.heap.size 0 #[.int .u8 x] 5 (0, 0) (heap_alloc_new w _)]
  simpa using hj
end Go.Proofs.YtjgjebohbgbimaaDoor

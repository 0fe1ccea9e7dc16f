/-
  Bytes made of a text; texts as lists of numbers; no conditions.
-/
import Derived.Test.YtfmbaidpeliakaaDoorSteps
import Derived.Test.YtfmbaidpeliakaaDoorArrEq
import Derived.Test.YtfmbaidpeliakaaDoorDigDefs
import Derived.Lib.ConvBytes
import Derived.Laws.AppendOwn
namespace Go.Proofs.YtfmbaidpeliakaaDoor
open Go.RowKit

/-- the bytes of a text -/
def txt (s : ByteArray) : List Int := s.data.toList.map fun b => (b.toNat : Int)

theorem txt_len (s : ByteArray) : (txt s).length = s.size := by
  unfold txt
  rw [List.length_map, Array.length_toList]
  rfl

theorem txt_bounds (s : ByteArray) : ∀ y ∈ txt s, 0 ≤ y ∧ y ≤ 255 := by
  intro y hy
  obtain ⟨b, _, rfl⟩ := List.mem_map.1 hy
  have := b.toNat_lt
  omega

theorem txt_at (s : ByteArray) (k : Nat) (h : k < s.size) : ((s.data.toList.getD k 0).toNat : Int) = (txt s).getD k 0 := by
  have hl : k < s.data.toList.length := by rw [Array.length_toList]; exact h
  unfold txt
  rw [List.getD_eq_getElem?_getD, List.getD_eq_getElem?_getD, List.getElem?_map, List.getElem?_eq_getElem hl]
  rfl

theorem txt_extract (s : ByteArray) (a b : Nat) : txt (s.extract a b) = ((txt s).take b).drop a := by
  unfold txt
  rw [ByteArray.data_extract, Array.toList_extract, List.extract_eq_take_drop, List.map_take, List.map_drop, List.drop_take]

theorem txt_append (s t : ByteArray) : txt (s ++ t) = txt s ++ txt t := by
  unfold txt
  rw [ByteArray.data_append, Array.toList_append, List.map_append]

theorem bytesWorld_below (w : World) (e : TypeId) (s : ByteArray) : Below w.heap.size w (Lib.bytesWorld w e s) :=
  ⟨by simp only [Lib.bytesWorld, World.freeze]; rfl, by simp only [Lib.bytesWorld, World.freeze]; rfl, by simp only [Lib.bytesWorld, World.freeze]; rfl, by rw [Lib.bytesWorld_size]; omega, fun k hk => Lib.bytesWorld_at_old w e s k hk⟩

/-- a row of bytes that was made of a text -/
structure Fresh (w w' : World) (s : ByteArray) (cap : Nat) : Prop where
  below : Below w.heap.size w w'
  size : w'.heap.size = w.heap.size + 1
  room : s.size ≤ cap
  cells : ∀ j, j < s.size → w'.cell? ⟨w.heap.size, j, none⟩ = some (.int .u8 ((txt s).getD j 0))

theorem fresh_of (w : World) (e : TypeId) (s : ByteArray) : Fresh w (Lib.bytesWorld w e s) s (grownCap w s.size 0 e) :=
  ⟨bytesWorld_below w e s, Lib.bytesWorld_size w e s, grownCap_ge w s.size 0 e, fun j hj => by rw [Lib.bytesWorld_cell w e s j hj, txt_at s j hj]⟩

theorem wpList_bytes_of {P : Program} {w : World} {ops : Array Oper} {rest : List Oper} {o : Oper} {a : Act} {Q : Exit → Act → World → Prop} (hw : Region.wanted o (yielded ops a.tmps) = true) (src dst e : TypeId) (x : Operand) (ho : o.op = .convert src dst x) (s : ByteArray) (hx : a.eval x = .string s)
    (hs : P.underlying src = some .string) (hd : P.underlying dst = some (.slice e)) (he : P.underlying e = some (.int .u8))
    (h : ∀ w' cap, Hid (Fresh w w' s cap) → wpList P ops Q rest (a.put o.dst (.slice (some ⟨w.heap.size, 0, none⟩) s.size cap)) w') : wpList P ops Q (o :: rest) a w := by
  refine wpList_step fun K hK => ?_
  rw [if_pos hw]
  have hr := Lib.run_convert_string_bytes (P := P) w src dst e s hs hd he
  unfold Oper.wp
  simp [execOp, ho, hx, hr, Result.andThen]
  exact hK _ _ (h _ _ (fresh_of w e s))

/-- .. as a step of a region that draws -/
theorem step_bytes_of {P : Program} {w : World} {ops : Array Oper} {o : Oper} {a : Act} {K : Act → World → Prop} {Q : Exit → Act → World → Prop} {E : Prop} (hw : Region.wanted o (yielded ops a.tmps) = true) (d : Option Tmp) (hdst : o.dst = d) (src dst e : TypeId) (x : Operand) (ho : o.op = .convert src dst x) (s : ByteArray) (hx : a.eval x = .string s)
    (hs : P.underlying src = some .string) (hd : P.underlying dst = some (.slice e)) (he : P.underlying e = some (.int .u8))
    (h : ∀ w' cap, Hid (Fresh w w' s cap) → K (a.put d (.slice (some ⟨w.heap.size, 0, none⟩) s.size cap)) w') : if Region.wanted o (yielded ops a.tmps) = true then Oper.wp P o a w K Q else E := by
  rw [if_pos hw]
  subst hdst
  have hr := Lib.run_convert_string_bytes (P := P) w src dst e s hs hd he
  unfold Oper.wp
  simp [execOp, ho, hx, hr, Result.andThen]
  exact h _ _ (fresh_of w e s)

/-- are two arrays of bytes not one? wherever it is asked -/
theorem yields_neq_arr {P : Program} {ops : Array Oper} {S : World → Prop} {o : Oper} {a : Act} (hw : Region.wanted o (yielded ops a.tmps) = true) (T T' : TypeId) (x y : Operand) (ho : o.op = .binOp .neq T x y T')
    (xs ys : List Int) (n : Nat) (e : TypeId) (hx : a.eval x = .agg (xs.map (Value.int .u8)).toArray) (hy : a.eval y = .agg (ys.map (Value.int .u8)).toArray) (hm : P.eqGuardType P.depth T = false)
    (ht : P.underlying T = some (.array n e)) (he : P.underlying e = some (.int .u8)) (hsz : (P.info? e).map (·.size) = some 1) (lx : xs.length = n) (ly : ys.length = n) : YieldsIf P ops S o (.bool (!decide (xs = ys))) a :=
  .inl ⟨hw, fun w _ => by
    have h1 := run_eqGuard_agg (P := P) w .neq T x y (xs.map (Value.int .u8)).toArray (ys.map (Value.int .u8)).toArray hm
    have h2 := run_neq_struct (P := P) w T (xs.map (Value.int .u8)).toArray (ys.map (Value.int .u8)).toArray
    rw [run_equalIn_arr8 w 9998 T e n ht he (size_one hsz) xs ys lx ly] at h2
    simp [execOp, ho, hx, hy, h1, h2, Result.andThen]⟩

/-- are two arrays of bytes one? wherever it is asked -/
theorem yields_eql_arr {P : Program} {ops : Array Oper} {S : World → Prop} {o : Oper} {a : Act} (hw : Region.wanted o (yielded ops a.tmps) = true) (T T' : TypeId) (x y : Operand) (ho : o.op = .binOp .eql T x y T')
    (xs ys : List Int) (n : Nat) (e : TypeId) (hx : a.eval x = .agg (xs.map (Value.int .u8)).toArray) (hy : a.eval y = .agg (ys.map (Value.int .u8)).toArray) (hm : P.eqGuardType P.depth T = false)
    (ht : P.underlying T = some (.array n e)) (he : P.underlying e = some (.int .u8)) (hsz : (P.info? e).map (·.size) = some 1) (lx : xs.length = n) (ly : ys.length = n) : YieldsIf P ops S o (.bool (decide (xs = ys))) a :=
  .inl ⟨hw, fun w _ => by
    have h1 := run_eqGuard_agg (P := P) w .eql T x y (xs.map (Value.int .u8)).toArray (ys.map (Value.int .u8)).toArray hm
    have h2 := run_eql_struct (P := P) w T (xs.map (Value.int .u8)).toArray (ys.map (Value.int .u8)).toArray
    rw [run_equalIn_arr8 w 9998 T e n ht he (size_one hsz) xs ys lx ly] at h2
    simp [execOp, ho, hx, hy, h1, h2, Result.andThen]⟩
end Go.Proofs.YtfmbaidpeliakaaDoor

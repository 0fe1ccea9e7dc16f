/-
  What the walks of the statement HashWrites lean on: digests in memory, the document's digest of a text; no conditions.
-/
import Derived.Test.YtfmbaidpeliakaaDoorR2Sum
import Derived.Test.YtfmbaidpeliakaaDoorLent2
import Derived.Test.YtfmbaidpeliakaaDoorOver2
import Derived.Test.YtfmbaidpeliakaaDoorHas
import Derived.Test.YtfmbaidpeliakaaDoorPick
namespace Go.Proofs.YtfmbaidpeliakaaDoor
open Go.RowKit

theorem guard32 : Tryd.prog.eqGuardType Tryd.prog.depth 26 = false := by kernel_rfl

theorem yields_moveG {P : Program} {ops : Array Oper} {S : World → Prop} {a : Act} {oi : Oper} (x : Operand) (ho : oi.op = .move x ∨ oi.op = .assign x) (hw : Region.wanted oi (yielded ops a.tmps) = true) {v : Value} (hv : a.eval x = v) : YieldsIf P ops S oi v a :=
  .inl ⟨hw, fun w _ => by
    rcases ho with ho | ho <;> simp [execOp, ho, hv]⟩

theorem yields_same_arr {P : Program} {ops : Array Oper} {S : World → Prop} {o : Oper} {a : Act} (hw : Region.wanted o (yielded ops a.tmps) = true) (T T' : TypeId) (x y : Operand) (ho : o.op = .binOp .eql T x y T')
    (xs : List Int) (n : Nat) (e : TypeId) (hx : a.eval x = .agg (xs.map (Value.int .u8)).toArray) (hy : a.eval y = .agg (xs.map (Value.int .u8)).toArray) (hm : P.eqGuardType P.depth T = false)
    (ht : P.underlying T = some (.array n e)) (he : P.underlying e = some (.int .u8)) (hsz : (P.info? e).map (·.size) = some 1) (lx : xs.length = n) : YieldsIf P ops S o (.bool true) a := by
  have h := yields_eql_arr (P := P) (S := S) hw T T' x y ho xs xs n e hx hy hm ht he hsz lx lx
  simpa using h

/-- a digest in memory -/
theorem range_of {w : World} {g : Nat} {T : TypeId} {D : List Int} (h : w.heap[g]? = some (.cells (D.map (Value.int .u8)).toArray T (0, 0))) (hg : g < w.heap.size) : ∀ u, Below w.heap.size w u → u.rangeAt g 0 (D.map (Value.int .u8)) := by
  intro u hu j v hv
  rw [Nat.zero_add, hu.cell (p := ⟨g, j, none⟩) hg, cell_of_row w g j _ T (0, 0) h]
  simpa using hv

theorem yields_unlike_arr {P : Program} {ops : Array Oper} {S : World → Prop} {o : Oper} {a : Act} (hw : Region.wanted o (yielded ops a.tmps) = true) (T T' : TypeId) (x y : Operand) (ho : o.op = .binOp .neq T x y T')
    (xs : List Int) (n : Nat) (e : TypeId) (hx : a.eval x = .agg (xs.map (Value.int .u8)).toArray) (hy : a.eval y = .agg (xs.map (Value.int .u8)).toArray) (hm : P.eqGuardType P.depth T = false)
    (ht : P.underlying T = some (.array n e)) (he : P.underlying e = some (.int .u8)) (hsz : (P.info? e).map (·.size) = some 1) (lx : xs.length = n) : YieldsIf P ops S o (.bool false) a := by
  have h := yields_neq_arr (P := P) (S := S) hw T T' x y ho xs xs n e hx hy hm ht he hsz lx lx
  simpa using h

/-- the document's digest of bytes made of a text -/
theorem ref_has {T : ByteArray} {cap : Nat} (u w w' : World) (F : Fresh u w T cap) (hw : Below w.heap.size w w') (hm : T.size ≤ 140737488351232) :
    Calls Tryd.prog 7 #[.slice (some ⟨u.heap.size, 0, none⟩) T.size cap] w' fun e w'' => e = .returned (.agg ((digM KS (txt T)).map (Value.int .u8)).toArray) ∧ Below w'.heap.size w' w'' := by
  refine refSum_any (some ⟨u.heap.size, 0, none⟩) T.size cap (txt T) w' ?_ (txt_bounds T) hm
  intro v hv
  refine ⟨txt_len T, (fun e => by cases e), fun ad ha j x hj => ?_⟩
  cases ha
  have hjl : j < T.size := by
    have := (List.getElem?_eq_some_iff.1 hj).1
    rw [List.length_map, txt_len] at this
    exact this
  have z1 := F.size
  have z2 := hw.size
  rw [Addr.add_mid, Nat.zero_add, hv.cell (p := ⟨u.heap.size, j, none⟩) (by show u.heap.size < w'.heap.size; omega), hw.cell (p := ⟨u.heap.size, j, none⟩) (by show u.heap.size < w.heap.size; omega), F.cells j hjl, ← hj, List.getElem?_map, List.getD_eq_getElem?_getD]
  rw [List.getElem?_eq_getElem (show j < (txt T).length by rw [txt_len]; exact hjl)]
  rfl

theorem arr8_bytes {w : World} {g : Nat} {xs ys : List Int} (h : Arr8 w g 5 (xs ++ ys)) : ∀ j, j < xs.length → w.cell? ⟨g, 0 + j, none⟩ = some (.int .u8 (xs.getD j 0)) := by
  intro j hj
  rw [Nat.zero_add]
  have h1 := h.cell j (by rw [List.length_append]; omega)
  rw [List.getD_eq_getElem?_getD, List.getElem?_append_left hj, ← List.getD_eq_getElem?_getD] at h1
  exact h1

theorem arr_lt {w : World} {g : Nat} {T : TypeId} {xs : List Int} (h : Arr8 w g T xs) : g < w.heap.size := (Array.getElem?_eq_some_iff.1 h).1

end Go.Proofs.YtfmbaidpeliakaaDoor

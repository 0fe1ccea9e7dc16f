/-
  Append of bytes onto a row of the call's own, nil or not; no conditions but the form's own reach.
-/
import Derived.Test.YtfmbaidpeliakaaDoorHas
import Derived.Deep.AppendLies
import Derived.Laws.AppendOwn
import Derived.Laws.AppendOwnNone
namespace Go.Proofs.YtfmbaidpeliakaaDoor
open Go.RowKit

theorem infoU8' : (Tryd.prog.info? 5).map (fun i => (i.zero, i.size, i.bytes)) = some (some (.int .u8 0), 1, 1) := by kernel_rfl

/-- where the bytes to be laid behind lie -/
structure Src (w : World) (ao : Option Addr) (m c : Nat) (rs : List Int) : Prop where
  length : rs.length = m
  none : ao = none → m = 0 ∧ c = 0
  cells : ∀ ad, ao = some ad → ∀ j u, (rs.map (Value.int .u8))[j]? = some u → w.cell? (ad.add j) = some u

theorem app_own {w : World} {ops : Array Oper} {rest : List Oper} {o : Oper} {a : Act} {Q : Exit → Act → World → Prop} (hgd : o.guard = none) (sl x : Operand)
    (ho : o.op = .call { callee := .builtin .append, args := #[sl, x], argTypes := #[36, 36] })
    (base n : Nat) (v : Value) (xs : List Int) (hs : a.eval sl = v) (hown : w.ownsRow base 5 1 v n (xs.map (Value.int .u8)))
    (ao : Option Addr) (m c : Nat) (rs : List Int) (hx : a.eval x = .slice ao m c) (hr : Src w ao m c rs)
    (hbytes : n + m ≤ 140737488355328) (hbase : base ≤ w.heap.size)
    (h : ∀ v' w', Hid (w'.ownsRow base 5 1 v' (n + m) ((xs ++ rs).map (Value.int .u8)) ∧ w.grownBy w' v.ownBlock) → wpList Tryd.prog ops Q rest (a.put o.dst v') w') :
    wpList Tryd.prog ops Q (o :: rest) a w := by
  obtain ⟨i0, hi, hz0, hz1, hz2⟩ := info_parts infoU8'
  have hl := hr.length
  cases ao with
  | none =>
    obtain ⟨rfl, rfl⟩ := hr.none rfl
    have hrs : rs = [] := List.eq_nil_of_length_eq_zero hl
    subst hrs
    refine wpList_append_own_none hgd sl x 36 ho base 5 i0 1 Tryd.underlying36 hi _ n _ hs hown hx ?_
    exact h v w ⟨by simpa using hown, World.grownBy.refl _ _⟩
  | some ad =>
    refine wpList_append_own w hgd sl x 36 ho base 5 i0 (.int .u8 0) 1 1 Tryd.underlying36 hi hz0 hz1 hz2 rfl (by decide) v n _ hs hown ad m c (rs.map (Value.int .u8)) hx (by simp [hl]) (hr.cells ad rfl) (by intro u hu; obtain ⟨y, _, rfl⟩ := List.mem_map.1 hu; rfl) (by unfold maxLen; omega) (by omega) hbase ?_
    intro v' w' hown' hgrow _
    exact h v' w' ⟨by rw [List.map_append]; exact hown', hgrow⟩

/-- one byte that was just laid -/
theorem src_one (w : World) (x : Int) : Src (w.alloc (.cells #[.int .u8 x] 5)) (some ⟨w.heap.size, 0, none⟩) 1 1 [x] := by
  refine ⟨rfl, (fun e => by cases e), fun ad ha j u hj => ?_⟩
  cases ha
  have hj0 : j = 0 := by
    have := (List.getElem?_eq_some_iff.1 hj).1
    simpa using this
  subst hj0
  rw [Addr.add_mid, cell_of_row _ w.heap.size 0 #[.int .u8 x] 5 (0, 0) (heap_alloc_new w _)]
  simpa using hj
end Go.Proofs.YtfmbaidpeliakaaDoor

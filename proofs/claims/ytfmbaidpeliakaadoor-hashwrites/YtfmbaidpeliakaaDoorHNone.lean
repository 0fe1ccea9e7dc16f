/-
  The walk of none: a nil Hash is one of zero values; no conditions.
-/
import Derived.Test.YtfmbaidpeliakaaDoorHWBase
import Derived.Lib.SlBytesConst
namespace Go.Proofs.YtfmbaidpeliakaaDoor
open Go.RowKit
set_option linter.unusedVariables false
set_option linter.unusedSimpArgs false

theorem wpList_build_arrG {P : Program} {w : World} {ops : Array Oper} {rest : List Oper} {o : Oper} {a : Act} {Q : Exit → Act → World → Prop} (hw : Region.wanted o (yielded ops a.tmps) = true) (T : TypeId) (parts : Array (Nat × Operand)) (ho : o.op = .build T parts)
    (vals : Array (Nat × Value)) (hp : (parts.map fun (i, x) => (i, a.eval x)) = vals) (c : Array Value) (hb : P.built T vals.toList = some c)
    (h : wpList P ops Q rest (a.put o.dst (.agg c)) w) : wpList P ops Q (o :: rest) a w := by
  refine wpList_wanted hw fun K hK => ?_
  have hrun := run_build (P := P) w T vals c hb
  unfold Oper.wp
  simp [execOp, ho, hp, hrun, Result.andThen]
  exact hK _ _ h

theorem write_nil (ao : Option Addr) (l c : Nat) (w : World) : Calls Tryd.prog 9 #[.pointer none, .slice ao l c] w fun e w' => e = .returned (.int .i64 0) ∧ w' = w := by
  go_enter Tryd.func9, Tryd.ntmps9
  go_wp2
  go_ret
  exact ⟨rfl, rfl⟩

set_option maxRecDepth 100000 in
set_option maxHeartbeats 400000 in
theorem sum_nil (w : World) : Calls Tryd.prog 6 #[.pointer none] w fun e w' => e = .returned (.agg zb32) ∧ Below w.heap.size w w' := by
  obtain ⟨i0, hi, hz⟩ := zi32
  have tokA : True := trivial
  have tokB : True := trivial
  have tokC : True := trivial
  go_enter Tryd.func6, Tryd.ntmps6
  go_wp2_with (first
    | (have _t := tokA; refine wpList_new_arr rfl 26 rfl i0 zb32 hi hz ?_; intro w1 M1; clear tokA)
    | (have _t := tokB; refine wpList_build_arr rfl 26 #[] rfl #[] rfl zb32 (by kernel_rfl) ?_; clear tokB)
    | (have _t := tokC; refine wpList_put_arr rfl 26 (.tmp 2) (.tmp 6) rfl w.heap.size zb32 zb32 rfl rfl (unhide M1).at' rfl sb32 (by kernel_rfl) ?_; intro w3 M3; clear tokC))
  exact bodyPost_ret (ret_cell (p := 2) (T := 26) rfl _ _ w.heap.size zb32 32 _ rfl (unhide M3).at' Tryd.underlying26 sb32) rfl ⟨rfl, (unhide M3).below _ _ (unhide M1).below (Nat.le_refl _)⟩

theorem zb32_is : zb32 = ((List.replicate 32 (0 : Int)).map (Value.int .u8)).toArray := rfl

set_option maxRecDepth 100000 in
set_option maxHeartbeats 400000 in
theorem none_any (w : World) : Calls Tryd.prog 5 #[] w fun e w' => e = .returned (.bool true) ∧ Below w.heap.size w w' := by
  have tokB : True := trivial
  have tokC : True := trivial
  have C0 := hide (copy_nil w)
  have CW := fun ao l c u => hide (write_nil ao l c u)
  have CS := fun u => hide (sum_nil u)
  have kc := fun (w : World) (C : Array Value) (n c : Nat) => Lib.run_convert_bytes_const (P := Tryd.prog) w 36 5 C n c Tryd.underlying36 Tryd.underlying5
  go_enter Tryd.func5, Tryd.ntmps5
  go_wp2_with fail
  refine (unhide C0).mono ?_
  rintro e u ⟨rfl, rfl⟩
  go_wp2_with fail
  refine (unhide (CW _ _ _ _)).mono ?_
  rintro e u2 ⟨rfl, rfl⟩
  obtain ⟨w2, hw2⟩ : ∃ w2, u.alloc (.cells #[.int .u8 120] 5 (1, 2)) = w2 := ⟨_, rfl⟩
  rw [hw2]
  have B2 : Hid (Below u.heap.size u w2) := hide (by rw [← hw2]; exact (Below.refl _ _).alloc (Nat.le_refl _) _)
  clear kc hw2
  go_wp2_with fail
  refine (unhide (CS _)).mono ?_
  rintro e u3 ⟨rfl, b3⟩
  have B3 : Hid (Below u.heap.size u u3) := hide ((unhide B2).trans (b3.mono (unhide B2).size))
  clear b3
  go_wp2_with (first
    | (have _t := tokB; refine wpList_build_arrG rfl 26 #[] rfl #[] rfl zb32 (by kernel_rfl) ?_; clear tokB)
    | (have _t := tokC; refine wpList_eql_arrG rfl 26 26 (.tmp 12) (.tmp 13) rfl (List.replicate 32 0) (List.replicate 32 0) 32 5 rfl rfl guard32 Tryd.underlying26 Tryd.underlying5 s1b rfl rfl true (by simp) ?_; clear tokC))
  go_ret
  exact ⟨rfl, unhide B3⟩
end Go.Proofs.YtfmbaidpeliakaaDoor

/-
  The table of the pure operations (prim.operations); no conditions.
-/
import Derived.Test.YtgkmdjmigehmeaaGreatDoorJ07
import Derived.Test.YtgkmdjmigehmeaaGreatDoorJ08
set_option linter.unusedVariables false
set_option linter.unusedSimpArgs false
namespace Go.Proofs.YtgkmdjmigehmeaaGreatDoor
open Go.RowKit
set_option linter.unusedVariables false
set_option linter.unusedSimpArgs false

def opsVals : Array (Nat × Value) := #[(10, .agg #[.int .u8 28, .int .u8 0, .int .u8 0, .bool true, .func (.func 48) #[] #[]]), (11, .agg #[.int .u8 4, .int .u8 4, .int .u8 0, .bool false, .func (.func 49) #[] #[]]), (12, .agg #[.int .u8 4, .int .u8 4, .int .u8 0, .bool false, .func (.func 50) #[] #[]]), (13, .agg #[.int .u8 4, .int .u8 4, .int .u8 0, .bool false, .func (.func 51) #[] #[]]), (14, .agg #[.int .u8 4, .int .u8 4, .int .u8 0, .bool false, .func (.func 52) #[] #[]]), (15, .agg #[.int .u8 4, .int .u8 0, .int .u8 0, .bool false, .func (.func 53) #[] #[]]), (16, .agg #[.int .u8 2, .int .u8 0, .int .u8 0, .bool false, .func (.func 54) #[] #[]]), (17, .agg #[.int .u8 0, .int .u8 0, .int .u8 0, .bool false, .func (.func 55) #[] #[]]), (18, .agg #[.int .u8 0, .int .u8 0, .int .u8 0, .bool false, .func (.func 56) #[] #[]]), (19, .agg #[.int .u8 12, .int .u8 0, .int .u8 0, .bool true, .func (.func 57) #[] #[]]), (20, .agg #[.int .u8 12, .int .u8 0, .int .u8 0, .bool true, .func (.func 58) #[] #[]]), (21, .agg #[.int .u8 12, .int .u8 0, .int .u8 0, .bool true, .func (.func 59) #[] #[]]), (22, .agg #[.int .u8 12, .int .u8 0, .int .u8 0, .bool true, .func (.func 60) #[] #[]]), (23, .agg #[.int .u8 0, .int .u8 0, .int .u8 0, .bool false, .func (.func 61) #[] #[]]), (24, .agg #[.int .u8 0, .int .u8 0, .int .u8 0, .bool false, .func (.func 62) #[] #[]]), (25, .agg #[.int .u8 24, .int .u8 4, .int .u8 0, .bool false, .func (.func 63) #[] #[]]), (26, .agg #[.int .u8 32, .int .u8 0, .int .u8 0, .bool false, .func (.func 64) #[] #[]]), (27, .agg #[.int .u8 56, .int .u8 0, .int .u8 0, .bool false, .func (.func 65) #[] #[]]), (28, .agg #[.int .u8 16, .int .u8 0, .int .u8 0, .bool false, .func (.func 66) #[] #[]]), (29, .agg #[.int .u8 16, .int .u8 4, .int .u8 0, .bool false, .func (.func 67) #[] #[]]), (30, .agg #[.int .u8 24, .int .u8 4, .int .u8 4, .bool false, .func (.func 68) #[] #[]]), (31, .agg #[.int .u8 32, .int .u8 8, .int .u8 0, .bool false, .func (.func 69) #[] #[]]), (32, .agg #[.int .u8 32, .int .u8 8, .int .u8 0, .bool false, .func (.func 70) #[] #[]]), (33, .agg #[.int .u8 32, .int .u8 0, .int .u8 0, .bool false, .func (.func 71) #[] #[]]), (34, .agg #[.int .u8 32, .int .u8 8, .int .u8 0, .bool false, .func (.func 72) #[] #[]]), (35, .agg #[.int .u8 0, .int .u8 0, .int .u8 0, .bool false, .func (.func 73) #[] #[]]), (36, .agg #[.int .u8 0, .int .u8 0, .int .u8 0, .bool false, .func (.func 74) #[] #[]]), (37, .agg #[.int .u8 0, .int .u8 0, .int .u8 0, .bool false, .func (.func 75) #[] #[]])]
def opsCells : Array Value := (((List.replicate 10 ([.int .u8 0, .int .u8 0, .int .u8 0, .bool false, .nilFunc] : List Value)).flatten) ++ ((opsVals.toList.map (fun p => p.2.cells.toList)).flatten)).toArray
theorem ops_built : Tryz.prog.built 56 opsVals.toList = some opsCells := by kernel_rfl
theorem ops_size : opsCells.size = 190 := by kernel_rfl
theorem ops_info : (Tryz.prog.info? 56).map (·.size) = some opsCells.size := by kernel_rfl
theorem ops_one : opsCells.all (·.oneCell') = true := by kernel_rfl
def opsZero : Array Value := ((List.replicate 38 ([.int .u8 0, .int .u8 0, .int .u8 0, .bool false, .nilFunc] : List Value)).flatten).toArray
theorem ops_zero : ∃ i, Tryz.prog.info? 56 = some i ∧ i.zero = some (.agg opsZero) := by
  cases h : Tryz.prog.info? 56 with
  | none =>
    have h2 : (Tryz.prog.info? 56).isSome = true := by kernel_rfl
    rw [h] at h2
    cases h2
  | some i =>
    have h2 : (Tryz.prog.info? 56).bind (·.zero) = some (.agg opsZero) := by kernel_rfl
    rw [h] at h2
    exact ⟨i, rfl, h2⟩
theorem ops_zsize : opsZero.size = opsCells.size := by kernel_rfl
theorem op_add : opsCells.extract 50 55 = #[.int .u8 28, .int .u8 0, .int .u8 0, .bool true, .func (.func 48) #[] #[]] := by kernel_rfl
theorem op_sub : opsCells.extract 55 60 = #[.int .u8 4, .int .u8 4, .int .u8 0, .bool false, .func (.func 49) #[] #[]] := by kernel_rfl
theorem op_mul : opsCells.extract 60 65 = #[.int .u8 4, .int .u8 4, .int .u8 0, .bool false, .func (.func 50) #[] #[]] := by kernel_rfl
theorem op_div : opsCells.extract 65 70 = #[.int .u8 4, .int .u8 4, .int .u8 0, .bool false, .func (.func 51) #[] #[]] := by kernel_rfl
theorem op_rem : opsCells.extract 70 75 = #[.int .u8 4, .int .u8 4, .int .u8 0, .bool false, .func (.func 52) #[] #[]] := by kernel_rfl
theorem op_neg : opsCells.extract 75 80 = #[.int .u8 4, .int .u8 0, .int .u8 0, .bool false, .func (.func 53) #[] #[]] := by kernel_rfl
theorem op_not : opsCells.extract 80 85 = #[.int .u8 2, .int .u8 0, .int .u8 0, .bool false, .func (.func 54) #[] #[]] := by kernel_rfl
theorem op_eq : opsCells.extract 85 90 = #[.int .u8 0, .int .u8 0, .int .u8 0, .bool false, .func (.func 55) #[] #[]] := by kernel_rfl
theorem op_ne : opsCells.extract 90 95 = #[.int .u8 0, .int .u8 0, .int .u8 0, .bool false, .func (.func 56) #[] #[]] := by kernel_rfl
theorem op_lt : opsCells.extract 95 100 = #[.int .u8 12, .int .u8 0, .int .u8 0, .bool true, .func (.func 57) #[] #[]] := by kernel_rfl
theorem op_le : opsCells.extract 100 105 = #[.int .u8 12, .int .u8 0, .int .u8 0, .bool true, .func (.func 58) #[] #[]] := by kernel_rfl
theorem op_gt : opsCells.extract 105 110 = #[.int .u8 12, .int .u8 0, .int .u8 0, .bool true, .func (.func 59) #[] #[]] := by kernel_rfl
theorem op_ge : opsCells.extract 110 115 = #[.int .u8 12, .int .u8 0, .int .u8 0, .bool true, .func (.func 60) #[] #[]] := by kernel_rfl
theorem op_array : opsCells.extract 115 120 = #[.int .u8 0, .int .u8 0, .int .u8 0, .bool false, .func (.func 61) #[] #[]] := by kernel_rfl
theorem op_record : opsCells.extract 120 125 = #[.int .u8 0, .int .u8 0, .int .u8 0, .bool false, .func (.func 62) #[] #[]] := by kernel_rfl
theorem op_index : opsCells.extract 125 130 = #[.int .u8 24, .int .u8 4, .int .u8 0, .bool false, .func (.func 63) #[] #[]] := by kernel_rfl
theorem op_field : opsCells.extract 130 135 = #[.int .u8 32, .int .u8 0, .int .u8 0, .bool false, .func (.func 64) #[] #[]] := by kernel_rfl
theorem op_length : opsCells.extract 135 140 = #[.int .u8 56, .int .u8 0, .int .u8 0, .bool false, .func (.func 65) #[] #[]] := by kernel_rfl
theorem op_push : opsCells.extract 140 145 = #[.int .u8 16, .int .u8 0, .int .u8 0, .bool false, .func (.func 66) #[] #[]] := by kernel_rfl
theorem op_change : opsCells.extract 145 150 = #[.int .u8 16, .int .u8 4, .int .u8 0, .bool false, .func (.func 67) #[] #[]] := by kernel_rfl
theorem op_slice : opsCells.extract 150 155 = #[.int .u8 24, .int .u8 4, .int .u8 4, .bool false, .func (.func 68) #[] #[]] := by kernel_rfl
theorem op_with : opsCells.extract 155 160 = #[.int .u8 32, .int .u8 8, .int .u8 0, .bool false, .func (.func 69) #[] #[]] := by kernel_rfl
theorem op_without : opsCells.extract 160 165 = #[.int .u8 32, .int .u8 8, .int .u8 0, .bool false, .func (.func 70) #[] #[]] := by kernel_rfl
theorem op_keys : opsCells.extract 165 170 = #[.int .u8 32, .int .u8 0, .int .u8 0, .bool false, .func (.func 71) #[] #[]] := by kernel_rfl
theorem op_has : opsCells.extract 170 175 = #[.int .u8 32, .int .u8 8, .int .u8 0, .bool false, .func (.func 72) #[] #[]] := by kernel_rfl
theorem op_kind : opsCells.extract 175 180 = #[.int .u8 0, .int .u8 0, .int .u8 0, .bool false, .func (.func 73) #[] #[]] := by kernel_rfl
theorem op_digest : opsCells.extract 180 185 = #[.int .u8 0, .int .u8 0, .int .u8 0, .bool false, .func (.func 74) #[] #[]] := by kernel_rfl
theorem op_abort : opsCells.extract 185 190 = #[.int .u8 0, .int .u8 0, .int .u8 0, .bool false, .func (.func 75) #[] #[]] := by kernel_rfl


set_option maxRecDepth 100000 in
set_option maxHeartbeats 4000000 in
theorem operations_any (w : World) : Calls Tryz.prog 29 #[] w fun e w' => e = .returned (.agg opsCells) ∧ Below w.heap.size w w' := by
  obtain ⟨i0, hi, hz⟩ := ops_zero
  have tokA : True := trivial
  obtain ⟨g, hg⟩ : ∃ g, w.heap.size = g := ⟨_, rfl⟩
  go_enter Tryz.func29, Tryz.ntmps29
  go_upto_region 1 with (first | (have _t := tokA; refine wpList_alloc_arr rfl 56 rfl i0 (.agg opsZero) hi hz ?_; intro w1 H1; clear tokA; have b1 := block_new H1))
  have HB1 := hide b1
  clear b1 H1
  go_upto_region 3 with fail
  obtain ⟨g1, hg1⟩ : ∃ g1, w1.heap.size = g1 := ⟨_, rfl⟩
  obtain ⟨v1, hv1⟩ : ∃ v1, w1.alloc (.cells #[.int .u8 28, .int .u8 0, .int .u8 0] 52) = v1 := ⟨_, rfl⟩
  have sv1 : w1.heap.size = g1 := by rw [hg1]
  have ng1 : v1.heap[g1]? = some (.cells #[.int .u8 28, .int .u8 0, .int .u8 0] 52 (0, 0)) := by rw [← hv1, ← sv1]; exact heap_alloc_new w1 _
  have xg1 : Below w1.heap.size w1 v1 := by rw [← hv1]; exact (Below.refl _ _).alloc (Nat.le_refl _) _
  obtain ⟨v2, hv2⟩ : ∃ v2, v1.alloc (.cells #[.int .u8 12, .int .u8 0, .int .u8 0] 52) = v2 := ⟨_, rfl⟩
  have sv2 : v1.heap.size = g1 + 1 := by rw [← hv1, World.size_alloc, sv1]
  have ng2 : v2.heap[g1 + 1]? = some (.cells #[.int .u8 12, .int .u8 0, .int .u8 0] 52 (0, 0)) := by rw [← hv2, ← sv2]; exact heap_alloc_new v1 _
  have xg2 : Below v1.heap.size v1 v2 := by rw [← hv2]; exact (Below.refl _ _).alloc (Nat.le_refl _) _
  obtain ⟨v3, hv3⟩ : ∃ v3, v2.alloc (.cells #[.int .u8 4, .int .u8 4, .int .u8 0] 52) = v3 := ⟨_, rfl⟩
  have sv3 : v2.heap.size = g1 + 1 + 1 := by rw [← hv2, World.size_alloc, sv2]
  have ng3 : v3.heap[g1 + 1 + 1]? = some (.cells #[.int .u8 4, .int .u8 4, .int .u8 0] 52 (0, 0)) := by rw [← hv3, ← sv3]; exact heap_alloc_new v2 _
  have xg3 : Below v2.heap.size v2 v3 := by rw [← hv3]; exact (Below.refl _ _).alloc (Nat.le_refl _) _
  obtain ⟨v4, hv4⟩ : ∃ v4, v3.alloc (.cells #[.int .u8 32, .int .u8 8, .int .u8 0] 52) = v4 := ⟨_, rfl⟩
  have sv4 : v3.heap.size = g1 + 1 + 1 + 1 := by rw [← hv3, World.size_alloc, sv3]
  have ng4 : v4.heap[g1 + 1 + 1 + 1]? = some (.cells #[.int .u8 32, .int .u8 8, .int .u8 0] 52 (0, 0)) := by rw [← hv4, ← sv4]; exact heap_alloc_new v3 _
  have xg4 : Below v3.heap.size v3 v4 := by rw [← hv4]; exact (Below.refl _ _).alloc (Nat.le_refl _) _
  rw [hv1, hv2, hv3, hv4, hg1]
  have s5 : v4.heap.size = g1 + 1 + 1 + 1 + 1 := by rw [← hv4, World.size_alloc, sv4]
  have lg := (Array.getElem?_eq_some_iff.1 (unhide HB1).1).1
  have y12 : Below w1.heap.size w1 v2 := xg1.trans (xg2.mono xg1.size)
  have y13 : Below w1.heap.size w1 v3 := y12.trans (xg3.mono y12.size)
  have y14 : Below w1.heap.size w1 v4 := y13.trans (xg4.mono y13.size)
  have z1 : v4.heap[g1]? = _ := (xg4.block g1 (by omega)).trans ((xg3.block g1 (by omega)).trans ((xg2.block g1 (by omega)).trans ng1))
  have z2 : v4.heap[g1 + 1]? = _ := (xg4.block (g1 + 1) (by omega)).trans ((xg3.block (g1 + 1) (by omega)).trans ng2)
  have z3 : v4.heap[g1 + 1 + 1]? = _ := (xg4.block (g1 + 1 + 1) (by omega)).trans ng3
  have z0 : v4.heap[g]? = some (.cells opsZero 56 (0, 0)) := by rw [← hg]; exact (y14.block _ lg).trans (unhide HB1).1
  have c10 : v4.cell? ⟨g1, 0, none⟩ = some (.int .u8 28) := by rw [cell_of_row v4 (g1) 0 _ _ (0, 0) z1]; rfl
  have c11 : v4.cell? ⟨g1, 1, none⟩ = some (.int .u8 0) := by rw [cell_of_row v4 (g1) 1 _ _ (0, 0) z1]; rfl
  have c12 : v4.cell? ⟨g1, 2, none⟩ = some (.int .u8 0) := by rw [cell_of_row v4 (g1) 2 _ _ (0, 0) z1]; rfl
  have c20 : v4.cell? ⟨g1 + 1, 0, none⟩ = some (.int .u8 12) := by rw [cell_of_row v4 (g1 + 1) 0 _ _ (0, 0) z2]; rfl
  have c21 : v4.cell? ⟨g1 + 1, 1, none⟩ = some (.int .u8 0) := by rw [cell_of_row v4 (g1 + 1) 1 _ _ (0, 0) z2]; rfl
  have c22 : v4.cell? ⟨g1 + 1, 2, none⟩ = some (.int .u8 0) := by rw [cell_of_row v4 (g1 + 1) 2 _ _ (0, 0) z2]; rfl
  have c30 : v4.cell? ⟨g1 + 1 + 1, 0, none⟩ = some (.int .u8 4) := by rw [cell_of_row v4 (g1 + 1 + 1) 0 _ _ (0, 0) z3]; rfl
  have c31 : v4.cell? ⟨g1 + 1 + 1, 1, none⟩ = some (.int .u8 4) := by rw [cell_of_row v4 (g1 + 1 + 1) 1 _ _ (0, 0) z3]; rfl
  have c32 : v4.cell? ⟨g1 + 1 + 1, 2, none⟩ = some (.int .u8 0) := by rw [cell_of_row v4 (g1 + 1 + 1) 2 _ _ (0, 0) z3]; rfl
  have c40 : v4.cell? ⟨g1 + 1 + 1 + 1, 0, none⟩ = some (.int .u8 32) := by rw [cell_of_row v4 (g1 + 1 + 1 + 1) 0 _ _ (0, 0) ng4]; rfl
  have c41 : v4.cell? ⟨g1 + 1 + 1 + 1, 1, none⟩ = some (.int .u8 8) := by rw [cell_of_row v4 (g1 + 1 + 1 + 1) 1 _ _ (0, 0) ng4]; rfl
  have c42 : v4.cell? ⟨g1 + 1 + 1 + 1, 2, none⟩ = some (.int .u8 0) := by rw [cell_of_row v4 (g1 + 1 + 1 + 1) 2 _ _ (0, 0) ng4]; rfl
  have HF : Hid (v4.heap[g]? = some (.cells opsZero 56 (0, 0)) ∧ Below w.heap.size w v4) := hide ⟨z0, (unhide HB1).2.2.trans (y14.mono (unhide HB1).2.2.size)⟩
  have tokC : True := trivial
  have tokD : True := trivial
  have HG := hide hg
  clear ng1 ng2 ng3 ng4 xg1 xg2 xg3 xg4 lg y12 y13 y14 z0 z1 z2 z3 s5 sv1 sv2 sv3 sv4 hv1 hv2 hv3 hv4 hg1 hg
  go_wp2_with (first | (have _t := tokC; refine wpList_build_arr rfl 56 _ rfl opsVals rfl opsCells ops_built ?_; clear tokC) | (have _t := tokD; refine wpList_store_arr rfl 56 (.tmp 0) (.tmp 58) rfl g opsZero opsCells rfl rfl (unhide HF).1 ops_zsize ops_info ops_one ?_; clear tokD))
  (try simp only [Exit.inBlock, Exit.then])
  refine bodyPost_ret (ret_cell rfl _ _ g opsCells 38 55 rfl (setRow_heap _ g opsZero opsCells 56 _ (unhide HF).1) Tryz.underlying56 ops_info) rfl ?_
  exact ⟨rfl, below_setRow (unhide HF).2 (by have := unhide HG; omega) opsCells⟩
end Go.Proofs.YtgkmdjmigehmeaaGreatDoor

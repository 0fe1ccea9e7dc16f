/-
  The table of the pure operations (prim.operations); no conditions.
-/
import Derived.Test.YtgkmdjmigehmeaaGreatDoorR02
import Derived.Test.YtgkmdjmigehmeaaGreatDoorRows
import Derived.Test.YtgkmdjmigehmeaaGreatDoorR00
import Derived.WalkKit
import Derived.WalkSpells
import Derived.WalkSmall
import Derived.Deep.Cut
import Derived.BigQuiet
import Derived.Deep.QuietTactic
import Derived.Deep.RegionHeld3
import Derived.OpenShut
import Derived.Laws.ResultCell
import Derived.Laws.Rows
import Derived.Laws.Tables
namespace Go.Proofs.YtgkmdjmigehmeaaGreatDoor
set_option linter.unusedVariables false
set_option linter.unusedSimpArgs false
set_option maxRecDepth 100000
set_option maxHeartbeats 16000000
open Go.RowKit
def opsVals : Array (Nat × Value) := #[(10, .agg #[.int .u8 28, .int .u8 0, .int .u8 0, .bool true, .func (.func 48) #[] #[]]), (11, .agg #[.int .u8 4, .int .u8 4, .int .u8 0, .bool false, .func (.func 49) #[] #[]]), (12, .agg #[.int .u8 4, .int .u8 4, .int .u8 0, .bool false, .func (.func 50) #[] #[]]), (13, .agg #[.int .u8 4, .int .u8 4, .int .u8 0, .bool false, .func (.func 51) #[] #[]]), (14, .agg #[.int .u8 4, .int .u8 4, .int .u8 0, .bool false, .func (.func 52) #[] #[]]), (15, .agg #[.int .u8 4, .int .u8 0, .int .u8 0, .bool false, .func (.func 53) #[] #[]]), (16, .agg #[.int .u8 2, .int .u8 0, .int .u8 0, .bool false, .func (.func 54) #[] #[]]), (17, .agg #[.int .u8 0, .int .u8 0, .int .u8 0, .bool false, .func (.func 55) #[] #[]]), (18, .agg #[.int .u8 0, .int .u8 0, .int .u8 0, .bool false, .func (.func 56) #[] #[]]), (19, .agg #[.int .u8 12, .int .u8 0, .int .u8 0, .bool true, .func (.func 57) #[] #[]]), (20, .agg #[.int .u8 12, .int .u8 0, .int .u8 0, .bool true, .func (.func 58) #[] #[]]), (21, .agg #[.int .u8 12, .int .u8 0, .int .u8 0, .bool true, .func (.func 59) #[] #[]]), (22, .agg #[.int .u8 12, .int .u8 0, .int .u8 0, .bool true, .func (.func 60) #[] #[]]), (23, .agg #[.int .u8 0, .int .u8 0, .int .u8 0, .bool false, .func (.func 61) #[] #[]]), (24, .agg #[.int .u8 0, .int .u8 0, .int .u8 0, .bool false, .func (.func 62) #[] #[]]), (25, .agg #[.int .u8 24, .int .u8 4, .int .u8 0, .bool false, .func (.func 63) #[] #[]]), (26, .agg #[.int .u8 32, .int .u8 0, .int .u8 0, .bool false, .func (.func 64) #[] #[]]), (27, .agg #[.int .u8 56, .int .u8 0, .int .u8 0, .bool false, .func (.func 65) #[] #[]]), (28, .agg #[.int .u8 16, .int .u8 0, .int .u8 0, .bool false, .func (.func 66) #[] #[]]), (29, .agg #[.int .u8 16, .int .u8 4, .int .u8 0, .bool false, .func (.func 67) #[] #[]]), (30, .agg #[.int .u8 24, .int .u8 4, .int .u8 4, .bool false, .func (.func 68) #[] #[]]), (31, .agg #[.int .u8 32, .int .u8 8, .int .u8 0, .bool false, .func (.func 69) #[] #[]]), (32, .agg #[.int .u8 32, .int .u8 8, .int .u8 0, .bool false, .func (.func 70) #[] #[]]), (33, .agg #[.int .u8 32, .int .u8 0, .int .u8 0, .bool false, .func (.func 71) #[] #[]]), (34, .agg #[.int .u8 32, .int .u8 8, .int .u8 0, .bool false, .func (.func 72) #[] #[]]), (35, .agg #[.int .u8 0, .int .u8 0, .int .u8 0, .bool false, .func (.func 73) #[] #[]]), (36, .agg #[.int .u8 0, .int .u8 0, .int .u8 0, .bool false, .func (.func 74) #[] #[]]), (37, .agg #[.int .u8 0, .int .u8 0, .int .u8 0, .bool false, .func (.func 75) #[] #[]])]
def opsCells : Array Value := (((List.replicate 10 ([.int .u8 0, .int .u8 0, .int .u8 0, .bool false, .nilFunc] : List Value)).flatten) ++ ((opsVals.toList.map (fun p => p.2.cells.toList)).flatten)).toArray
theorem ops_built : Tryz.prog.built 56 opsVals.toList = some opsCells := by kernel_rfl
theorem ops_info : (Tryz.prog.info? 56).map (·.size) = some opsCells.size := by kernel_rfl
theorem ops_one : opsCells.all (·.oneCell') = true := by kernel_rfl
def opsZero : Array Value := ((List.replicate 38 ([.int .u8 0, .int .u8 0, .int .u8 0, .bool false, .nilFunc] : List Value)).flatten).toArray
theorem ops_zero : ∃ i, Tryz.prog.info? 56 = some i ∧ i.zero = some (.agg opsZero) := by
 cases h : Tryz.prog.info? 56 with
 | none =>
  have h2 : (Tryz.prog.info? 56).isSome = true := by kernel_rfl
  rw [h] at h2
  cases h2
 | some i =>
  have h2 : (Tryz.prog.info? 56).bind (·.zero) = some (.agg opsZero) := by kernel_rfl
  rw [h] at h2
  exact ⟨i, rfl, h2⟩
theorem ops_zsize : opsZero.size = opsCells.size := by kernel_rfl
theorem op_add : opsCells.extract 50 55 = #[.int .u8 28, .int .u8 0, .int .u8 0, .bool true, .func (.func 48) #[] #[]] := by kernel_rfl
theorem op_sub : opsCells.extract 55 60 = #[.int .u8 4, .int .u8 4, .int .u8 0, .bool false, .func (.func 49) #[] #[]] := by kernel_rfl
theorem op_mul : opsCells.extract 60 65 = #[.int .u8 4, .int .u8 4, .int .u8 0, .bool false, .func (.func 50) #[] #[]] := by kernel_rfl
theorem op_div : opsCells.extract 65 70 = #[.int .u8 4, .int .u8 4, .int .u8 0, .bool false, .func (.func 51) #[] #[]] := by kernel_rfl
theorem op_rem : opsCells.extract 70 75 = #[.int .u8 4, .int .u8 4, .int .u8 0, .bool false, .func (.func 52) #[] #[]] := by kernel_rfl
theorem op_neg : opsCells.extract 75 80 = #[.int .u8 4, .int .u8 0, .int .u8 0, .bool false, .func (.func 53) #[] #[]] := by kernel_rfl
theorem op_not : opsCells.extract 80 85 = #[.int .u8 2, .int .u8 0, .int .u8 0, .bool false, .func (.func 54) #[] #[]] := by kernel_rfl
theorem op_eq : opsCells.extract 85 90 = #[.int .u8 0, .int .u8 0, .int .u8 0, .bool false, .func (.func 55) #[] #[]] := by kernel_rfl
theorem op_ne : opsCells.extract 90 95 = #[.int .u8 0, .int .u8 0, .int .u8 0, .bool false, .func (.func 56) #[] #[]] := by kernel_rfl
theorem op_lt : opsCells.extract 95 100 = #[.int .u8 12, .int .u8 0, .int .u8 0, .bool true, .func (.func 57) #[] #[]] := by kernel_rfl
theorem op_le : opsCells.extract 100 105 = #[.int .u8 12, .int .u8 0, .int .u8 0, .bool true, .func (.func 58) #[] #[]] := by kernel_rfl
theorem op_gt : opsCells.extract 105 110 = #[.int .u8 12, .int .u8 0, .int .u8 0, .bool true, .func (.func 59) #[] #[]] := by kernel_rfl
theorem op_ge : opsCells.extract 110 115 = #[.int .u8 12, .int .u8 0, .int .u8 0, .bool true, .func (.func 60) #[] #[]] := by kernel_rfl
theorem op_array : opsCells.extract 115 120 = #[.int .u8 0, .int .u8 0, .int .u8 0, .bool false, .func (.func 61) #[] #[]] := by kernel_rfl
theorem op_record : opsCells.extract 120 125 = #[.int .u8 0, .int .u8 0, .int .u8 0, .bool false, .func (.func 62) #[] #[]] := by kernel_rfl
theorem op_index : opsCells.extract 125 130 = #[.int .u8 24, .int .u8 4, .int .u8 0, .bool false, .func (.func 63) #[] #[]] := by kernel_rfl
theorem op_field : opsCells.extract 130 135 = #[.int .u8 32, .int .u8 0, .int .u8 0, .bool false, .func (.func 64) #[] #[]] := by kernel_rfl
theorem op_length : opsCells.extract 135 140 = #[.int .u8 56, .int .u8 0, .int .u8 0, .bool false, .func (.func 65) #[] #[]] := by kernel_rfl
theorem op_push : opsCells.extract 140 145 = #[.int .u8 16, .int .u8 0, .int .u8 0, .bool false, .func (.func 66) #[] #[]] := by kernel_rfl
theorem op_change : opsCells.extract 145 150 = #[.int .u8 16, .int .u8 4, .int .u8 0, .bool false, .func (.func 67) #[] #[]] := by kernel_rfl
theorem op_slice : opsCells.extract 150 155 = #[.int .u8 24, .int .u8 4, .int .u8 4, .bool false, .func (.func 68) #[] #[]] := by kernel_rfl
theorem op_with : opsCells.extract 155 160 = #[.int .u8 32, .int .u8 8, .int .u8 0, .bool false, .func (.func 69) #[] #[]] := by kernel_rfl
theorem op_without : opsCells.extract 160 165 = #[.int .u8 32, .int .u8 8, .int .u8 0, .bool false, .func (.func 70) #[] #[]] := by kernel_rfl
theorem op_keys : opsCells.extract 165 170 = #[.int .u8 32, .int .u8 0, .int .u8 0, .bool false, .func (.func 71) #[] #[]] := by kernel_rfl
theorem op_has : opsCells.extract 170 175 = #[.int .u8 32, .int .u8 8, .int .u8 0, .bool false, .func (.func 72) #[] #[]] := by kernel_rfl
theorem op_kind : opsCells.extract 175 180 = #[.int .u8 0, .int .u8 0, .int .u8 0, .bool false, .func (.func 73) #[] #[]] := by kernel_rfl
theorem op_digest : opsCells.extract 180 185 = #[.int .u8 0, .int .u8 0, .int .u8 0, .bool false, .func (.func 74) #[] #[]] := by kernel_rfl
theorem op_abort : opsCells.extract 185 190 = #[.int .u8 0, .int .u8 0, .int .u8 0, .bool false, .func (.func 75) #[] #[]] := by kernel_rfl
theorem operations_any (w : World) : Calls Tryz.prog 29 #[] w fun e w' => e = .returned (.agg opsCells) ∧ Below w.heap.size w w' := by
 obtain ⟨i0, hi, hz⟩ := ops_zero
 have tokA : True := trivial
 obtain ⟨g, hg⟩ : ∃ g, w.heap.size = g := ⟨_, rfl⟩
 go_enter Tryz.func29, Tryz.ntmps29
 go_upto_region 1 with (first | (have _t := tokA; refine wpList_alloc_arr rfl 56 rfl i0 (.agg opsZero) hi hz ?_; intro w1 H1; clear tokA; have b1 := block_new H1))
 have HB1 := hide b1
 clear b1 H1
 go_upto_region 3 with fail
 obtain ⟨g1, hg1⟩ : ∃ g1, w1.heap.size = g1 := ⟨_, rfl⟩
 obtain ⟨v1, hv1⟩ : ∃ v1, w1.alloc (.cells #[.int .u8 28, .int .u8 0, .int .u8 0] 52) = v1 := ⟨_, rfl⟩
 have sv1 : w1.heap.size = g1 := by rw [hg1]
 have ng1 : v1.heap[g1]? = some (.cells #[.int .u8 28, .int .u8 0, .int .u8 0] 52 (0, 0)) := by rw [← hv1, ← sv1]; exact heap_alloc_new w1 _
 have xg1 : Below w1.heap.size w1 v1 := by rw [← hv1]; exact (Below.refl _ _).alloc (Nat.le_refl _) _
 obtain ⟨v2, hv2⟩ : ∃ v2, v1.alloc (.cells #[.int .u8 12, .int .u8 0, .int .u8 0] 52) = v2 := ⟨_, rfl⟩
 have sv2 : v1.heap.size = g1 + 1 := by rw [← hv1, World.size_alloc, sv1]
 have ng2 : v2.heap[g1 + 1]? = some (.cells #[.int .u8 12, .int .u8 0, .int .u8 0] 52 (0, 0)) := by rw [← hv2, ← sv2]; exact heap_alloc_new v1 _
 have xg2 : Below v1.heap.size v1 v2 := by rw [← hv2]; exact (Below.refl _ _).alloc (Nat.le_refl _) _
 obtain ⟨v3, hv3⟩ : ∃ v3, v2.alloc (.cells #[.int .u8 4, .int .u8 4, .int .u8 0] 52) = v3 := ⟨_, rfl⟩
 have sv3 : v2.heap.size = g1 + 1 + 1 := by rw [← hv2, World.size_alloc, sv2]
 have ng3 : v3.heap[g1 + 1 + 1]? = some (.cells #[.int .u8 4, .int .u8 4, .int .u8 0] 52 (0, 0)) := by rw [← hv3, ← sv3]; exact heap_alloc_new v2 _
 have xg3 : Below v2.heap.size v2 v3 := by rw [← hv3]; exact (Below.refl _ _).alloc (Nat.le_refl _) _
 obtain ⟨v4, hv4⟩ : ∃ v4, v3.alloc (.cells #[.int .u8 32, .int .u8 8, .int .u8 0] 52) = v4 := ⟨_, rfl⟩
 have sv4 : v3.heap.size = g1 + 1 + 1 + 1 := by rw [← hv3, World.size_alloc, sv3]
 have ng4 : v4.heap[g1 + 1 + 1 + 1]? = some (.cells #[.int .u8 32, .int .u8 8, .int .u8 0] 52 (0, 0)) := by rw [← hv4, ← sv4]; exact heap_alloc_new v3 _
 have xg4 : Below v3.heap.size v3 v4 := by rw [← hv4]; exact (Below.refl _ _).alloc (Nat.le_refl _) _
 rw [hv1, hv2, hv3, hv4, hg1]
 have s5 : v4.heap.size = g1 + 1 + 1 + 1 + 1 := by rw [← hv4, World.size_alloc, sv4]
 have lg := (Array.getElem?_eq_some_iff.1 (uh HB1).1).1
 have y12 : Below w1.heap.size w1 v2 := xg1.trans (xg2.mono xg1.size)
 have y13 : Below w1.heap.size w1 v3 := y12.trans (xg3.mono y12.size)
 have y14 : Below w1.heap.size w1 v4 := y13.trans (xg4.mono y13.size)
 have z1 : v4.heap[g1]? = _ := (xg4.block g1 (by omega)).trans ((xg3.block g1 (by omega)).trans ((xg2.block g1 (by omega)).trans ng1))
 have z2 : v4.heap[g1 + 1]? = _ := (xg4.block (g1 + 1) (by omega)).trans ((xg3.block (g1 + 1) (by omega)).trans ng2)
 have z3 : v4.heap[g1 + 1 + 1]? = _ := (xg4.block (g1 + 1 + 1) (by omega)).trans ng3
 have z0 : v4.heap[g]? = some (.cells opsZero 56 (0, 0)) := by rw [← hg]; exact (y14.block _ lg).trans (uh HB1).1
 have c10 : v4.cell? ⟨g1, 0, none⟩ = some (.int .u8 28) := by rw [cell_of_row v4 (g1) 0 _ _ (0, 0) z1]; rfl
 have c11 : v4.cell? ⟨g1, 1, none⟩ = some (.int .u8 0) := by rw [cell_of_row v4 (g1) 1 _ _ (0, 0) z1]; rfl
 have c12 : v4.cell? ⟨g1, 2, none⟩ = some (.int .u8 0) := by rw [cell_of_row v4 (g1) 2 _ _ (0, 0) z1]; rfl
 have c20 : v4.cell? ⟨g1 + 1, 0, none⟩ = some (.int .u8 12) := by rw [cell_of_row v4 (g1 + 1) 0 _ _ (0, 0) z2]; rfl
 have c21 : v4.cell? ⟨g1 + 1, 1, none⟩ = some (.int .u8 0) := by rw [cell_of_row v4 (g1 + 1) 1 _ _ (0, 0) z2]; rfl
 have c22 : v4.cell? ⟨g1 + 1, 2, none⟩ = some (.int .u8 0) := by rw [cell_of_row v4 (g1 + 1) 2 _ _ (0, 0) z2]; rfl
 have c30 : v4.cell? ⟨g1 + 1 + 1, 0, none⟩ = some (.int .u8 4) := by rw [cell_of_row v4 (g1 + 1 + 1) 0 _ _ (0, 0) z3]; rfl
 have c31 : v4.cell? ⟨g1 + 1 + 1, 1, none⟩ = some (.int .u8 4) := by rw [cell_of_row v4 (g1 + 1 + 1) 1 _ _ (0, 0) z3]; rfl
 have c32 : v4.cell? ⟨g1 + 1 + 1, 2, none⟩ = some (.int .u8 0) := by rw [cell_of_row v4 (g1 + 1 + 1) 2 _ _ (0, 0) z3]; rfl
 have c40 : v4.cell? ⟨g1 + 1 + 1 + 1, 0, none⟩ = some (.int .u8 32) := by rw [cell_of_row v4 (g1 + 1 + 1 + 1) 0 _ _ (0, 0) ng4]; rfl
 have c41 : v4.cell? ⟨g1 + 1 + 1 + 1, 1, none⟩ = some (.int .u8 8) := by rw [cell_of_row v4 (g1 + 1 + 1 + 1) 1 _ _ (0, 0) ng4]; rfl
 have c42 : v4.cell? ⟨g1 + 1 + 1 + 1, 2, none⟩ = some (.int .u8 0) := by rw [cell_of_row v4 (g1 + 1 + 1 + 1) 2 _ _ (0, 0) ng4]; rfl
 have HF : Hid (v4.heap[g]? = some (.cells opsZero 56 (0, 0)) ∧ Below w.heap.size w v4) := hide ⟨z0, (uh HB1).2.2.trans (y14.mono (uh HB1).2.2.size)⟩
 have tokC : True := trivial
 have tokD : True := trivial
 have HG := hide hg
 clear ng1 ng2 ng3 ng4 xg1 xg2 xg3 xg4 lg y12 y13 y14 z0 z1 z2 z3 s5 sv1 sv2 sv3 sv4 hv1 hv2 hv3 hv4 hg1 hg
 go_wp2_with (first | (have _t := tokC; refine wpList_build_arr rfl 56 _ rfl opsVals rfl opsCells ops_built ?_; clear tokC) | (have _t := tokD; refine wpList_store_arr rfl 56 (.tmp 0) (.tmp 58) rfl g opsZero opsCells rfl rfl (uh HF).1 ops_zsize ops_info ops_one ?_; clear tokD))
 (try simp only [Exit.inBlock, Exit.then])
 refine bodyPost_ret (ret_cell rfl _ _ g opsCells 38 55 rfl (setRow_heap _ g opsZero opsCells 56 _ (uh HF).1) Tryz.underlying56 ops_info) rfl ?_
 exact ⟨rfl, below_setRow (uh HF).2 (by have := uh HG; omega) opsCells⟩
abbrev Inf := ByteArray × Int × Int × Int × Int × Int
def infV (x : Inf) : List Value := [.string x.1, .int .i64 x.2.1, .int .i64 x.2.2.1, .int .i64 x.2.2.2.1, .int .i64 x.2.2.2.2.1, .int .i64 x.2.2.2.2.2]
def infOf : DataW Unit → Inf
 | .agg [.lit (.string n), .lit (.int _ a), .lit (.int _ b), .lit (.int _ c), .lit (.int _ d), .lit (.int _ e)] => (⟨n.toArray⟩, a, b, c, d, e)
 | _ => (⟨#[]⟩, 0, 0, 0, 0, 0)
def OPS : List Inf := match (Rows.laid_scruple_code_operations : DataW Unit) with
 | .agg ps => ps.map infOf
 | _ => []
theorem OPS_len : OPS.length = 42 := by kernel_rfl
def blank : Inf := (⟨#[]⟩, 0, 0, 0, 0, 0)
def infoA (n : Int) : Inf × Bool := if 1 ≤ n ∧ n ≤ 41 then (OPS.getD n.toNat blank, true) else (blank, false)
structure Tab (w : World) : Prop where
 big : 0 < w.heap.size
 cell : ∀ k x, OPS[k]? = some x → ∀ j v, (infV x)[j]? = some v → w.cell? ⟨0, k * 6 + j, none⟩ = some v
theorem Tab.later {B : Nat} {w w' : World} (h : Tab w) (hb : Below B w w') (hB : 0 < B) (hs : w.heap.size ≤ w'.heap.size) : Tab w' := by
 refine ⟨Nat.lt_of_lt_of_le h.big hs, fun k x hx j v hv => ?_⟩
 have e : w'.cell? ⟨0, k * 6 + j, none⟩ = w.cell? ⟨0, k * 6 + j, none⟩ := World.cell?_of_block (hb.block 0 hB)
 rw [e]
 exact h.cell k x hx j v hv
theorem getD_ops (k : Nat) (hk : k < 42) : OPS[k]? = some (OPS.getD k blank) := by
 have := OPS_len
 rw [List.getD_eq_getElem?_getD, List.getElem?_eq_getElem (by omega)]
 rfl
theorem ret_ct {P : Program} {fn : Func} {p u : Tmp} {T : TypeId} (h : fn.results = #[.cell p T, .tmp u]) (tmps : Array Value) (w : World) (g : Nat) (c : Array Value) (d : TypeDesc) (t : TypeId)
  (hp : tmps.getD p undef = .pointer (some ⟨g, 0, none⟩)) (hb : w.heap[g]? = some (.cells c t (0, 0))) (hu : P.underlying T = some d) (hd : (match d with | .struct _ | .array _ _ => true | _ => false) = true) (hi : (P.info? T).map (·.size) = some c.size) :
  (results fn tmps).run P w = .ok (.tuple #[.agg c, tmps.getD u undef]) w := by
 rw [results_cell_tmp h, hp]
 have hl := run_loadVar_row (P := P) w g t T c (0, 0) _ hb hu hd hi
 simp [asAddr, Result.andThen, hl]
theorem size_inf : (Tryz.prog.info? 73).map (·.size) = some 6 := by kernel_rfl
theorem info_any (n : Int) (w : World) (h : Tab w) :
  Calls Tryz.prog 42 #[.int .i64 n] w fun e w' => e = .returned (.tuple #[.agg (infV (infoA n).1).toArray, .bool (infoA n).2]) ∧ Below w.heap.size w w' := by
 by_cases hn : 1 ≤ n ∧ n ≤ 41
 ·obtain ⟨k, rfl⟩ : ∃ k : Nat, n = (k : Int) := ⟨n.toNat, by omega⟩
  have hk := getD_ops k (by omega)
  have hb : 0 < w.heap.size := h.big
  have e1 : (infoA (k : Int)) = (OPS.getD k blank, true) := by simp [infoA, hn]
  rw [e1]
  generalize OPS.getD k blank = x at *
  obtain ⟨s, a, b, c, d, f⟩ := x
  have c0 : w.cell? ⟨0, k * 6, none⟩ = some (.string s) := h.cell k _ hk 0 _ rfl
  have c1 : w.cell? ⟨0, k * 6 + 1, none⟩ = some (.int .i64 a) := h.cell k _ hk 1 _ rfl
  have c2 : w.cell? ⟨0, k * 6 + 2, none⟩ = some (.int .i64 b) := h.cell k _ hk 2 _ rfl
  have c3 : w.cell? ⟨0, k * 6 + 3, none⟩ = some (.int .i64 c) := h.cell k _ hk 3 _ rfl
  have c4 : w.cell? ⟨0, k * 6 + 4, none⟩ = some (.int .i64 d) := h.cell k _ hk 4 _ rfl
  have c5 : w.cell? ⟨0, k * 6 + 5, none⟩ = some (.int .i64 f) := h.cell k _ hk 5 _ rfl
  obtain ⟨n1, n2⟩ := hn
  have n3 : ¬ (k : Int) < 1 := by omega
  have n4 : ¬ 42 ≤ (k : Int) := by omega
  have n5 : (k : Int) < 42 := by omega
  clear hk h e1
  go_enter Tryz.func42, Tryz.ntmps42
  go_wp2_with fail
  exact bodyPost_ret (ret_ct (p := 2) (u := 3) (T := 73) rfl _ _ w.heap.size _ _ _ rfl (heap_alloc_new w _) Tryz.underlying73 rfl size_inf) rfl ⟨rfl, (Below.refl _ _).alloc (Nat.le_refl _) _⟩
 ·have e1 : infoA n = (blank, false) := by simp [infoA, hn]
  rw [e1]
  by_cases n1 : n < 1
  ·go_enter Tryz.func42, Tryz.ntmps42
   go_wp2_with fail
   exact bodyPost_ret (ret_ct (p := 2) (u := 3) (T := 73) rfl _ _ w.heap.size _ _ _ rfl (heap_alloc_new w _) Tryz.underlying73 rfl size_inf) rfl ⟨rfl, (Below.refl _ _).alloc (Nat.le_refl _) _⟩
  ·have n2 : 42 ≤ n := by omega
   go_enter Tryz.func42, Tryz.ntmps42
   go_wp2_with fail
   exact bodyPost_ret (ret_ct (p := 2) (u := 3) (T := 73) rfl _ _ w.heap.size _ _ _ rfl (heap_alloc_new w _) Tryz.underlying73 rfl size_inf) rfl ⟨rfl, (Below.refl _ _).alloc (Nat.le_refl _) _⟩
theorem run_index_row {P : Program} (w : World) (t e : TypeId) (n sz : Nat) (cs : Array Value) (k : IntKind) (i : Nat) (row : Array Value) (h : P.underlying t = some (.array n e)) (hst : ∃ fs, P.underlying e = some (.struct fs)) (hs : (P.info? e).map (·.size) = some sz) (hi : i < n) (hv : cs.extract (i * sz) (i * sz + sz) = row) :
  (Instr.index t (.agg cs) (.int k (i : Int))).run P w = .ok (.agg row) w := by
 obtain ⟨fs, he⟩ := hst
 have h1 : (0 : Int) ≤ i ∧ (i : Int) < n := by omega
 simp [Instr.index, run_underlying h, asIntOf, h1, size_is hs, part, isAgg, run_underlying he, hv, Result.andThen]
 intro h
 omega
theorem size_vl : (Tryz.prog.info? 25).map (·.size) = some 5 := by kernel_rfl
theorem number_any (n : Int) (w : World) : Calls Tryz.prog 98 #[.int .i64 n] w fun e w' => e = .returned (.tuple #[.agg #[.int .i64 2, .int .i64 n, .string ⟨#[]⟩, .slice none 0 0, .slice none 0 0], .int .i64 0]) ∧ Below w.heap.size w w' := by
 go_enter Tryz.func98, Tryz.ntmps98
 go_wp2_with fail
 (try simp only [Exit.inBlock, Exit.then])
 refine bodyPost_ret (ret_ct rfl _ _ w.heap.size #[.int .i64 2, .int .i64 n, .string ⟨#[]⟩, .slice none 0 0, .slice none 0 0] _ _ rfl (heap_alloc_new w _) Tryz.underlying25 rfl size_vl) rfl ?_
 exact ⟨rfl, (Below.refl _ _).alloc (Nat.le_refl _) _⟩
theorem trap_any (n : Int) (w : World) : Calls Tryz.prog 101 #[.int .i64 n] w fun e w' => e = .returned (.tuple #[.agg #[.int .i64 0, .int .i64 0, .string ⟨#[]⟩, .slice none 0 0, .slice none 0 0], .int .i64 n]) ∧ Below w.heap.size w w' := by
 go_enter Tryz.func101, Tryz.ntmps101
 go_wp2_with fail
 (try simp only [Exit.inBlock, Exit.then])
 refine bodyPost_ret (ret_ct rfl _ _ w.heap.size #[.int .i64 0, .int .i64 0, .string ⟨#[]⟩, .slice none 0 0, .slice none 0 0] _ _ rfl (heap_alloc_new w _) Tryz.underlying25 rfl size_vl) rfl ?_
 exact ⟨rfl, (Below.refl _ _).alloc (Nat.le_refl _) _⟩
theorem pure_any (op : Int) (w : World) : Calls Tryz.prog 18 #[.int .i64 op] w fun e w' => e = .returned (.bool (decide (10 ≤ op ∧ op ≤ 37))) ∧ Below w.heap.size w w' := by
 by_cases h1 : 10 ≤ op
 ·by_cases h2 : op ≤ 37
  ·rw [decide_eq_true ⟨h1, h2⟩]
   go_enter Tryz.func18, Tryz.ntmps18
   go_wp2_with fail
   go_ret
   exact ⟨rfl, Below.refl _ _⟩
  ·rw [decide_eq_false (fun h => h2 h.2)]
   go_enter Tryz.func18, Tryz.ntmps18
   go_wp2_with fail
   go_ret
   exact ⟨rfl, Below.refl _ _⟩
 ·rw [decide_eq_false (fun h => h1 h.1)]
  go_enter Tryz.func18, Tryz.ntmps18
  go_wp2_with fail
  go_ret
  exact ⟨rfl, Below.refl _ _⟩
def cntA (n : Int) : Int := if n < 0 ∨ 40 < n then 0 else n
theorem counted_any (n : Int) (w : World) : Calls Tryz.prog 41 #[.int .i64 n] w fun e w' => e = .returned (.int .i64 (cntA n)) ∧ Below w.heap.size w w' := by
 unfold cntA
 by_cases h1 : n < 0
 ·rw [if_pos (Or.inl h1)]
  go_enter Tryz.func41, Tryz.ntmps41
  go_wp2_with fail
  go_ret
  exact ⟨rfl, Below.refl _ _⟩
 ·by_cases h2 : 40 < n
  ·rw [if_pos (Or.inr h2)]
   go_enter Tryz.func41, Tryz.ntmps41
   go_wp2_with fail
   go_ret
   exact ⟨rfl, Below.refl _ _⟩
  ·rw [if_neg (fun h => h.elim h1 h2)]
   go_enter Tryz.func41, Tryz.ntmps41
   go_wp2_with fail
   go_ret
   exact ⟨rfl, Below.refl _ _⟩
def ArV (w : World) (B : Nat) (vs : List Vl) (al : Option Addr) (n cl : Nat) : Prop := vs.length = n ∧ IsV w B (.mk 4 0 ⟨#[]⟩ vs []) (.agg #[.int .i64 4, .int .i64 0, .string ⟨#[]⟩, .slice al n cl, .slice none 0 0])
theorem ArV.later {w w' : World} {B : Nat} {vs : List Vl} {al : Option Addr} {n cl : Nat} (h : ArV w B vs al n cl) (hb : Below B w w') : ArV w' B vs al n cl := ⟨h.1, IsV.mono hb h.2⟩
theorem ArV.elem {w : World} {B : Nat} {vs : List Vl} {al : Option Addr} {n cl : Nat} (h : ArV w B vs al n cl) (i : Nat) (y : Vl) (hy : vs[i]? = some y) :
  ∃ (a : Addr) (al' ak' : Option Addr) (cl' ck' : Nat), al = some a ∧ a.block < B ∧ (∀ j v, [Value.int .i64 y.kind, .int .i64 y.n, .string y.s, .slice al' y.l.length cl', .slice ak' y.ks.length ck'][j]? = some v → w.cell? ((a.add (i * 5)).add j) = some v) ∧ IsV w B y (.agg #[.int .i64 y.kind, .int .i64 y.n, .string y.s, .slice al' y.l.length cl', .slice ak' y.ks.length ck']) := by
 obtain ⟨hn, al2, ak2, cl2, ck2, V, hx, hf, hl⟩ := h
 have hxx : al2 = al := by
  have h1 := congrArg Array.toList (Value.agg.inj hx)
  simp at h1
  exact h1.1.1.symm
 subst hxx
 have hel := (IsPL_iff w _ vs V).1 hl i y hy
 have hi : i < vs.length := (List.getElem?_eq_some_iff.1 hy).1
 obtain ⟨a3, k3, c3, d3, V3, hx3, hf3, hl3⟩ := hel
 have hVi : V i = [.int .i64 y.kind, .int .i64 y.n, .string y.s, .slice a3 y.l.length c3, .slice k3 y.ks.length d3] := by
  have h1 := congrArg Array.toList (Value.agg.inj hx3)
  simpa using h1
 cases al2 with
 | none => exact absurd (hf.nl rfl).1 (by show vs.length ≠ 0; omega)
 | some a =>
  obtain ⟨q1, q2⟩ := hf.hl a rfl i hi
  rw [hVi] at q2
  exact ⟨a, a3, k3, c3, d3, rfl, q1, q2, a3, k3, c3, d3, V3, rfl, hf3, hl3⟩
theorem wrong_any (v : Vl) (x : Value) (B : Nat) (w : World) (hv : IsV w B v x) (hBs : B ≤ w.heap.size) :
  Calls Tryz.prog 47 #[x] w fun e w' => e = .returned (.bool (!rightB v)) ∧ Below w.heap.size w w' := by
 obtain ⟨kd, n, s, l, ks, al, ak, cl, ck, rfl, rfl⟩ := hv.shape
 obtain ⟨gb, hgb⟩ : ∃ gb, w.heap.size = gb := ⟨_, rfl⟩
 obtain ⟨w1, hw1⟩ : ∃ w1, w.alloc (.cells #[.int .i64 kd, .int .i64 n, .string s, .slice al l.length cl, .slice ak ks.length ck] 25) = w1 := ⟨_, rfl⟩
 have n1 : w1.heap[gb]? = some (.cells #[.int .i64 kd, .int .i64 n, .string s, .slice al l.length cl, .slice ak ks.length ck] 25 (0, 0)) := by rw [← hw1, ← hgb]; exact heap_alloc_new w _
 have b1 : Below w.heap.size w w1 := by rw [← hw1]; exact (Below.refl _ _).alloc (Nat.le_refl _) _
 obtain ⟨c0, c1, c2, c3, c4⟩ := row_cell n1
 have CR := hide (right_code _ _ B w1 (IsV.mono (b1.mono hBs) hv) (Nat.le_trans hBs b1.size))
 have B1 := hide b1
 obtain ⟨R, hR⟩ : ∃ R, rightB (.mk kd n s l ks) = R := ⟨_, rfl⟩
 rw [hR] at CR ⊢
 clear n1 b1 hv hR
 go_enter Tryz.func47, Tryz.ntmps47
 go_wp2_with fail
 refine (uh CR).mono ?_
 rintro e u ⟨rfl, b2⟩
 have B2 := hide ((uh B1).trans (b2.mono (uh B1).size))
 clear b2 CR
 go_wp2_with fail
 go_ret
 exact ⟨rfl, by first | exact uh B2 | (rw [← hgb]; exact uh B2)⟩
theorem indexF_any (vs : List Vl) (al : Option Addr) (n cl B : Nat) (w : World) (h : ArV w B vs al n cl) (hBs : B ≤ w.heap.size) :
  Calls Tryz.prog 97 #[.slice al n cl, .func (.func 47) #[] #[]] w fun e w' => ∃ r : Int, e = .returned (.int .i64 r) ∧ (decide (0 ≤ r) = !(vs.all rightB)) ∧ Below w.heap.size w w' := by
 have hn := h.1
 have hnb : n ≤ 140737488351232 := by obtain ⟨_, _, _, _, V, _, hf, _⟩ := h.2; have := hf.bl; simp only [hn] at this; exact this
 have HN := hide hn
 have HV : Hid (∀ u, Below w.heap.size w u → ArV u B vs al n cl) := hide (fun u hu => h.later (hu.mono hBs))
 have HB := hide hBs
 clear h hn hBs
 go_enter Tryz.func97, Tryz.ntmps97
 go_wp2_with fail
 go_loopw [8] (fun x wr => ∃ i : Nat, x = .int .i64 (i : Int) ∧ Hid (i ≤ n) ∧ Hid ((vs.take i).all rightB = true ∧ Below w.heap.size w wr)) (fun x _ => n - (intOf x).toNat)
 case atStart => exact ⟨0, rfl, hide (by omega), hide ⟨rfl, Below.refl _ _⟩⟩
 case round =>
  obtain ⟨i, rfl, HI1, HX⟩ := hrel
  by_cases hlt : i < n
  ·have j1 : (i : Int) < (n : Int) := by omega
   have HI2 : Hid (i + 1 ≤ n) := hide (by omega)
   obtain ⟨y, hy⟩ : ∃ y, vs[i]? = some y := ⟨_, List.getElem?_eq_getElem (by have := uh HN; omega)⟩
   obtain ⟨a, al', ak', cl', ck', rfl, hab, hc, hp⟩ := (uh HV wr (uh HX).2).elem i y hy
   have c0 : wr.cell? (a.add (i * 5)) = some (.int .i64 y.kind) := hc 0 _ rfl
   have c1 : wr.cell? ⟨(a.add (i * 5)).block, (a.add (i * 5)).off + 1, none⟩ = some (.int .i64 y.n) := hc 1 _ rfl
   have c2 : wr.cell? ⟨(a.add (i * 5)).block, (a.add (i * 5)).off + 2, none⟩ = some (.string y.s) := hc 2 _ rfl
   have c3 : wr.cell? ⟨(a.add (i * 5)).block, (a.add (i * 5)).off + 3, none⟩ = some (.slice al' y.l.length cl') := hc 3 _ rfl
   have c4 : wr.cell? ⟨(a.add (i * 5)).block, (a.add (i * 5)).off + 4, none⟩ = some (.slice ak' y.ks.length ck') := hc 4 _ rfl
   have CW := hide (wrong_any y _ B wr hp (Nat.le_trans (uh HB) (uh HX).2.size))
   obtain ⟨R, hR⟩ : ∃ R, rightB y = R := ⟨_, rfl⟩
   have HY : Hid (vs[i]? = some y ∧ rightB y = R) := hide ⟨hy, hR⟩
   rw [hR] at CW
   clear hc hp hy hR
   cases R with
   | true =>
    go_wp2_with fail
    refine (uh CW).mono ?_
    rintro e u ⟨rfl, b2⟩
    have H2 : Hid ((vs.take (i + 1)).all rightB = true ∧ Below w.heap.size w u) := hide ⟨by rw [List.take_add_one, (uh HY).1]; simp only [Option.toList_some, List.all_append, (uh HX).1, List.all_cons, (uh HY).2]; rfl, (uh HX).2.trans (b2.mono (uh HX).2.size)⟩
    clear b2 CW c0 c1 c2 c3 c4
    go_wp2_with fail
    go_roundw
    case rel => exact ⟨i + 1, by go_num, HI2, H2⟩
    case measure => simp [intOf]; omega
   | false =>
    go_wp2_with fail
    refine (uh CW).mono ?_
    rintro e u ⟨rfl, b2⟩
    have H2 : Hid (Below w.heap.size w u) := hide ((uh HX).2.trans (b2.mono (uh HX).2.size))
    clear b2 CW c0 c1 c2 c3 c4
    go_wp2_with fail
    go_ret
    exact ⟨_, rfl, by
     have : vs.all rightB = false := by
      rw [List.all_eq_false]
      exact ⟨y, List.mem_of_getElem? (uh HY).1, by rw [(uh HY).2]; decide⟩
     rw [this]
     simp, uh H2⟩
  ·have j1 : ¬ (i : Int) < (n : Int) := by omega
   have HE : Hid (vs.all rightB = true) := hide (by
    have h1 := (uh HX).1
    rw [List.take_of_length_le (by have := uh HN; omega)] at h1
    exact h1)
   go_wp2_with fail
   go_ret
   exact ⟨-1, rfl, by rw [uh HE]; rfl, (uh HX).2⟩
end Go.Proofs.YtgkmdjmigehmeaaGreatDoor

/-
  The walks of measure, Right, Weight, Depth: a value's weight and depth, 0 of what is not right; no conditions but the form's own reach.
-/
import Derived.Test.YtgkmdjmigehmeaaGreatDoorR01
import Derived.Laws.ResultCell
import Derived.Laws.EntriesVeiled
import Derived.Test.YtgkmdjmigehmeaaGreatDoorRows
import Derived.WalkKit
import Derived.WalkSpells
import Derived.OpenShut
import Derived.Deep.WholeRow
import Derived.Deep.MidRow
import Derived.Laws.Tables
import Derived.Laws.CopyOwn
import Derived.Test.YtgkmdjmigehmeaaGreatDoorR00
import Derived.Deep.RegionHeld3
import Derived.BigQuiet
import Derived.WalkSmall
namespace Go.Proofs.YtgkmdjmigehmeaaGreatDoor
set_option linter.unusedVariables false
set_option linter.unusedSimpArgs false
set_option maxRecDepth 100000
set_option maxHeartbeats 16000000
open Go.RowKit
def rightB (v : Vl) : Bool := okB 8 v && decide (wt v ≤ 2048)
def wt0 (v : Vl) : Nat := if rightB v then wt v else 0
def dep0 (v : Vl) : Nat := if rightB v then dep v else 0
theorem dep_pos (v : Vl) : 1 ≤ dep v := by cases v; simp [dep]
theorem ret_cells {fn : Func} {p q : Tmp} (h : fn.results = #[.cell p 3, .cell q 3]) (tmps : Array Value) (w : World) (gp gq : Nat) (x y : Int) (hp : tmps.getD p undef = .pointer (some ⟨gp, 0, none⟩)) (hq : tmps.getD q undef = .pointer (some ⟨gq, 0, none⟩))
  (hx : w.cell? ⟨gp, 0, none⟩ = some (.int .i64 x)) (hy : w.cell? ⟨gq, 0, none⟩ = some (.int .i64 y)) : (results fn tmps).run Tryz.prog w = .ok (.tuple #[.int .i64 x, .int .i64 y]) w := by
 have hp' : tmps[p]?.getD undef = .pointer (some ⟨gp, 0, none⟩) := by simpa using hp
 have hq' : tmps[q]?.getD undef = .pointer (some ⟨gq, 0, none⟩) := by simpa using hq
 simp only [results, h]
 go_simp
theorem measure_any (v : Vl) (x : Value) (B : Nat) (w : World) (hv : IsV w B v x) (hBs : B ≤ w.heap.size) :
  Calls Tryz.prog 43 #[x] w fun e w' => e = .returned (.tuple #[.int .i64 (wt0 v : Int), .int .i64 (dep0 v : Int)]) ∧ Below w.heap.size w w' := by
 obtain ⟨k', n', s', l', ks', al', ak', cl', ck', hy', hx⟩ := hv.shape
 obtain ⟨ll, hll⟩ : ∃ ll, l'.length = ll := ⟨_, rfl⟩
 obtain ⟨m, hm⟩ : ∃ m, ks'.length = m := ⟨_, rfl⟩
 rw [hll, hm] at hx
 subst hx
 obtain ⟨w1, hw1⟩ : ∃ w1, w.alloc (.cells #[.int .i64 k', .int .i64 n', .string s', .slice al' ll cl', .slice ak' m ck'] 25) = w1 := ⟨_, rfl⟩
 have BX := Box.mk' w (.int .i64 k') (.int .i64 n') (.string s') (.slice al' ll cl') (.slice ak' m ck')
 rw [hw1] at BX
 obtain ⟨g, hg⟩ : ∃ g, w.heap.size = g := ⟨_, rfl⟩
 have z1 := BX.size
 rw [hg] at z1
 obtain ⟨w2, hw2⟩ : ∃ w2, w1.alloc (.cells #[.int .i64 0] 3) = w2 := ⟨_, rfl⟩
 obtain ⟨w3, hw3⟩ : ∃ w3, w2.alloc (.cells #[.int .i64 0] 3) = w3 := ⟨_, rfl⟩
 obtain ⟨w4, hw4⟩ : ∃ w4, w3.alloc (.cells #[.nilFunc] 97) = w4 := ⟨_, rfl⟩
 have z2 : w2.heap.size = g + 2 := by rw [← hw2]; simp [z1]
 have z3 : w3.heap.size = g + 3 := by rw [← hw3]; simp [z2]
 have z4 : w4.heap.size = g + 4 := by rw [← hw4]; simp [z3]
 have b12 : Below w1.heap.size w1 w2 := by rw [← hw2]; exact (Below.refl _ _).alloc (Nat.le_refl _) _
 have b23 : Below w2.heap.size w2 w3 := by rw [← hw3]; exact (Below.refl _ _).alloc (Nat.le_refl _) _
 have b34 : Below w3.heap.size w3 w4 := by rw [← hw4]; exact (Below.refl _ _).alloc (Nat.le_refl _) _
 have r2 : w2.heap[g + 1]? = some (.cells #[.int .i64 0] 3 (0, 0)) := by rw [← hw2, ← z1]; exact heap_alloc_new w1 _
 have r3 : w3.heap[g + 2]? = some (.cells #[.int .i64 0] 3 (0, 0)) := by rw [← hw3, ← z2]; exact heap_alloc_new w2 _
 have r4 : w4.heap[g + 3]? = some (.cells #[.nilFunc] 97 (0, 0)) := by rw [← hw4, ← z3]; exact heap_alloc_new w3 _
 obtain ⟨w5, hw5⟩ : ∃ w5, w4.setCell ⟨g + 3, 0, none⟩ (.func (.func 91) #[] #[.pointer (some ⟨g + 2, 0, none⟩), .pointer (some ⟨g + 1, 0, none⟩), .pointer (some ⟨g + 3, 0, none⟩)]) = w5 := ⟨_, rfl⟩
 have z5 : w5.heap.size = g + 4 := by rw [← hw5]; simp [z4]
 have S5 : St w5 (g + 2) (g + 1) (g + 3) ((0 : Nat) : Int) ((0 : Nat) : Int) := by
  refine ⟨?_, ?_, ?_⟩
  ·rw [← hw5, heap_setCell_other _ _ _ _ (by simp), b34.block _ (by omega)]; exact r3
  ·rw [← hw5, heap_setCell_other _ _ _ _ (by simp), b34.block _ (by omega), b23.block _ (by omega)]; exact r2
  ·rw [← hw5, heap_setCell_same w4 (g + 3) 0 _ _ _ r4]; rfl
 have P5 : Pl w5 g (g + 2) (g + 1) (g + 3) := ⟨by omega, by omega, by omega, by omega, by omega, by omega, by omega, by omega, by omega⟩
 have X5 : Below g w w5 := by
  have h := ((BX.below.trans (b12.mono (by omega))).trans (b23.mono (by omega))).trans (b34.mono (by omega))
  rw [hg] at h
  rw [← hw5]
  exact h.setCell (p := ⟨g + 3, 0, none⟩) (by show g ≤ g + 3; omega) _
 have R5 : w5.heap[g]? = some (.cells #[.int .i64 k', .int .i64 n', .string s', .slice al' ll cl', .slice ak' m ck'] 25 (0, 0)) := by
  rw [← hw5, heap_setCell_other _ _ _ _ (by simp), b34.block _ (by omega), b23.block _ (by omega), b12.block _ (by omega), ← hg]
  exact BX.row
 have q4 : w4.cell? ⟨g + 3, 0, none⟩ = some .nilFunc := (one_cell r4).1
 have f4 : w4.frozen? ⟨g + 3, 0, none⟩ = false := (one_cell r4).2
 have qr : w5.cell? ⟨g + 3, 0, none⟩ = some (.func (.func 91) #[] #[.pointer (some ⟨g + 2, 0, none⟩), .pointer (some ⟨g + 1, 0, none⟩), .pointer (some ⟨g + 3, 0, none⟩)]) := (one_cell S5.fn).1
 obtain ⟨c0, c1, c2, c3, c4⟩ := row_cell R5
 have CI := hide (right_any 8 v _ 1 0 0 g (g + 2) (g + 1) (g + 3) w5 (by omega) (by omega) ((hv.lift (by omega)).mono X5) (by omega) P5 S5 (by omega))
 have H := hide (And.intro P5 (And.intro X5 hy'))
 clear BX b12 b23 b34 r2 r3 r4 S5 P5 X5 R5 hv hy'
 rw [hg]
 simp only [Nat.zero_add] at CI
 obtain ⟨R, hR⟩ : ∃ R, (okB 8 v && decide (wt v ≤ 2048)) = R := ⟨_, rfl⟩
 rw [hR] at CI
 have HR := hide hR
 clear hR
 go_enter Tryz.func43, Tryz.ntmps43
 go_wp2_with fail
 refine (uh CI).mono ?_
 rintro e w6 ⟨d', s', rfl, s6, b6, hok⟩
 have S6 := hide s6
 have X6 : Hid (Below g w w6) := hide ((uh H).2.1.trans b6)
 have P6 : Hid (Pl w6 g (g + 2) (g + 1) (g + 3)) := hide ((uh H).1.later b6.size)
 have HO := hide hok
 obtain ⟨qd, fd⟩ := one_cell s6.dep
 obtain ⟨qw, fw⟩ := one_cell s6.wgt
 clear s6 b6 hok CI c0 c1 c2 c3 c4 qr q4 f4 hw1 hw2 hw3 hw4 hw5
 cases R with
 | false =>
  have S7 := hide (((uh S6).setW (uh P6) 0).setD ((uh P6).later (by simp)) 0)
  have X7 := hide (((uh X6).setCell (p := ⟨g + 1, 0, none⟩) (by show g ≤ g + 1; omega) (.int .i64 0)).setCell (p := ⟨g + 2, 0, none⟩) (by show g ≤ g + 2; omega) (.int .i64 0))
  have hr : rightB v = false := uh HR
  have HZ : Hid (wt0 v = 0 ∧ dep0 v = 0) := hide (by unfold wt0 dep0; rw [hr]; exact ⟨rfl, rfl⟩)
  clear hr
  go_wp2_with fail
  refine bodyPost_ret (ret_cells rfl _ _ (g + 1) (g + 2) 0 0 rfl rfl (one_cell (uh S7).wgt).1 (one_cell (uh S7).dep).1) rfl ⟨by rw [(uh HZ).1, (uh HZ).2]; rfl, uh X7⟩
 | true =>
  obtain ⟨es, ed⟩ := uh HO rfl
  subst es
  subst ed
  go_wp2_with fail
  go_region
  have hr : rightB v = true := uh HR
  have HZ : Hid (wt0 v = wt v ∧ dep0 v = dep v) := hide (by unfold wt0 dep0; rw [hr]; exact ⟨rfl, rfl⟩)
  obtain ⟨W, hW⟩ : ∃ W : Nat, wt v = W := ⟨_, rfl⟩
  obtain ⟨D, hD⟩ : ∃ D : Nat, dep v = D := ⟨_, rfl⟩
  rw [hW, hD] at HZ
  rw [hW, hD]
  have S7 := hide (((uh S6).setW (uh P6) (W : Int)).setD ((uh P6).later (by simp)) (D : Int))
  have X7 := hide ((((uh X6).setCell (p := ⟨g + 1, 0, none⟩) (by show g ≤ g + 1; omega) (.int .i64 (W : Int))).setCell (p := ⟨g + 2, 0, none⟩) (by show g ≤ g + 2; omega) (.int .i64 (D : Int))).drew)
  clear hr HO S6
  go_wp2_with fail
  refine bodyPost_ret (ret_cells rfl _ _ (g + 1) (g + 2) (W : Int) (D : Int) rfl rfl (one_cell (uh S7).wgt).1 (one_cell (uh S7).dep).1) rfl ⟨by rw [(uh HZ).1, (uh HZ).2], uh X7⟩
theorem right_code (v : Vl) (x : Value) (B : Nat) (w : World) (hv : IsV w B v x) (hBs : B ≤ w.heap.size) :
  Calls Tryz.prog 22 #[x] w fun e w' => e = .returned (.bool (rightB v)) ∧ Below w.heap.size w w' := by
 obtain ⟨k', n', s', l', ks', al', ak', cl', ck', hy', hx⟩ := hv.shape
 obtain ⟨ll, hll⟩ : ∃ ll, l'.length = ll := ⟨_, rfl⟩
 obtain ⟨m, hm⟩ : ∃ m, ks'.length = m := ⟨_, rfl⟩
 rw [hll, hm] at hx
 subst hx
 obtain ⟨w1, hw1⟩ : ∃ w1, w.alloc (.cells #[.int .i64 k', .int .i64 n', .string s', .slice al' ll cl', .slice ak' m ck'] 25) = w1 := ⟨_, rfl⟩
 have BX := Box.mk' w (.int .i64 k') (.int .i64 n') (.string s') (.slice al' ll cl') (.slice ak' m ck')
 rw [hw1] at BX
 obtain ⟨c0, c1, c2, c3, c4⟩ := row_cell BX.row
 have z1 := BX.size
 have HB := hide BX.below
 have CM := hide (measure_any v _ B w1 (hv.mono (BX.below.mono hBs)) (by omega))
 have HRB : Hid (decide (0 < wt0 v) = rightB v) := hide (by
  unfold wt0
  cases h : rightB v with
  | false => simp
  | true => have := wt_pos v; simp [this])
 clear BX hv hy'
 go_enter Tryz.func22, Tryz.ntmps22
 go_wp2_with fail
 refine (uh CM).mono ?_
 rintro e w2 ⟨rfl, b2⟩
 have B2 := hide b2
 clear b2 CM
 go_wp2_with fail
 go_ret
 exact ⟨by rw [← uh HRB]; rfl, (uh HB).trans ((uh B2).mono (by omega))⟩
theorem wpList_load_arr {P : Program} {w : World} {ops : Array Oper} {rest : List Oper} {o : Oper} {a : Act} {Q : Exit → Act → World → Prop} (hgd : o.guard = none) (T : TypeId) (x : Operand) (ho : o.op = .load T x)
  (g : Nat) (c : Array Value) (n : Nat) (e : TypeId) (hx : a.eval x = .pointer (some ⟨g, 0, none⟩)) (hb : w.heap[g]? = some (.cells c T (0, 0))) (hu : P.underlying T = some (.array n e)) (hi : (P.info? T).map (·.size) = some c.size)
  (h : wpList P ops Q rest (a.put o.dst (.agg c)) w) : wpList P ops Q (o :: rest) a w := by
 refine wpList_load_mid hgd T x ho g 0 hx c.toList (.array n e) ?_ hu rfl (by simpa using hi) (by simpa using h)
 intro j v hv
 rw [Nat.zero_add, cell_of_row w g j c T (0, 0) hb]
 simpa using hv
theorem wpList_store_arr {P : Program} {w : World} {ops : Array Oper} {rest : List Oper} {o : Oper} {a : Act} {Q : Exit → Act → World → Prop} (hgd : o.guard = none) (T : TypeId) (x y : Operand) (ho : o.op = .store T x y)
  (g : Nat) (c c' : Array Value) (hx : a.eval x = .pointer (some ⟨g, 0, none⟩)) (hy : a.eval y = .agg c') (hb : w.heap[g]? = some (.cells c T (0, 0))) (hs : c.size = c'.size) (hi : (P.info? T).map (·.size) = some c'.size) (h1 : c'.all (·.oneCell') = true)
  (h : wpList P ops Q rest (a.put o.dst undef) (w.setRow g c')) : wpList P ops Q (o :: rest) a w := by
 refine wpList_plain hgd fun K hK => ?_
 have hv := run_storeVar_row (P := P) w g T T c c' hb hi hs h1
 have hrun : (Instr.storeAt T (.pointer (some ⟨g, 0, none⟩)) (.agg c')).run P w = .ok () (w.setRow g c') := by
  simp only [Instr.storeAt, Instr.sureAddr, Sem.run_bind, Sem.run_pure, Result.andThen]
  exact hv
 unfold Oper.wp
 simp [execOp, ho, hx, hy, hrun, Result.andThen]
 exact hK _ _ h
theorem wpList_alloc_arr {P : Program} {w : World} {ops : Array Oper} {rest : List Oper} {o : Oper} {a : Act} {Q : Exit → Act → World → Prop} (hgd : o.guard = none) (T : TypeId) (ho : o.op = .alloc T)
  (i : TypeInfo) (z : Value) (hi : P.info? T = some i) (hz : i.zero = some z)
  (h : ∀ w', Hid (w' = w.alloc (.cells z.cells T)) → wpList P ops Q rest (a.put o.dst (.pointer (some ⟨w.heap.size, 0, none⟩))) w') : wpList P ops Q (o :: rest) a w := by
 refine wpList_plain hgd fun K hK => ?_
 unfold Oper.wp
 simp [execOp, ho, Instr.alloc, zeroValue, typeInfo, hi, hz, Result.andThen]
 exact hK _ _ (h _ rfl)
theorem wpList_build_arr {P : Program} {w : World} {ops : Array Oper} {rest : List Oper} {o : Oper} {a : Act} {Q : Exit → Act → World → Prop} (hgd : o.guard = none) (T : TypeId) (parts : Array (Nat × Operand)) (ho : o.op = .build T parts)
  (vals : Array (Nat × Value)) (hp : (parts.map fun (i, x) => (i, a.eval x)) = vals) (c : Array Value) (hb : P.built T vals.toList = some c)
  (h : wpList P ops Q rest (a.put o.dst (.agg c)) w) : wpList P ops Q (o :: rest) a w := by
 refine wpList_plain hgd fun K hK => ?_
 have hrun := run_build (P := P) w T vals c hb
 unfold Oper.wp
 simp [execOp, ho, hp, hrun, Result.andThen]
 exact hK _ _ h
theorem block_new {w w' : World} {c : Array Value} {T : TypeId} (h : Hid (w' = w.alloc (.cells c T))) : w'.heap[w.heap.size]? = some (.cells c T (0, 0)) ∧ w'.heap.size = w.heap.size + 1 ∧ Below w.heap.size w w' := by
 have e : w' = w.alloc (.cells c T) := h
 subst e
 exact ⟨heap_alloc_new w _, by simp, (Below.refl _ _).alloc (Nat.le_refl _) _⟩
theorem ret_cell {P : Program} {fn : Func} {p : Tmp} {T : TypeId} (h : fn.results = #[.cell p T]) (tmps : Array Value) (w : World) (g : Nat) (c : Array Value) (n : Nat) (e : TypeId)
  (hp : tmps.getD p undef = .pointer (some ⟨g, 0, none⟩)) (hb : w.heap[g]? = some (.cells c T (0, 0))) (hu : P.underlying T = some (.array n e)) (hi : (P.info? T).map (·.size) = some c.size) :
  (results fn tmps).run P w = .ok (.agg c) w := by
 have hl := run_loadVar_row (P := P) w g T T c (0, 0) _ hb hu rfl hi
 have hp' : tmps[p]?.getD undef = .pointer (some ⟨g, 0, none⟩) := by simpa using hp
 simp [results, h, hp', asAddr, hl]
def Arr8 (w : World) (g : Nat) (T : TypeId) (xs : List Int) : Prop := w.heap[g]? = some (.cells (xs.map (Value.int .u8)).toArray T (0, 0))
theorem Arr8.cell {w : World} {g : Nat} {T : TypeId} {xs : List Int} (h : Arr8 w g T xs) (j : Nat) (hj : j < xs.length) : w.cell? ⟨g, j, none⟩ = some (.int .u8 (xs.getD j 0)) := by
 rw [cell_of_row w g j _ T (0, 0) h]
 simp [List.getD, hj]
theorem Arr8.free {w : World} {g : Nat} {T : TypeId} {xs : List Int} (h : Arr8 w g T xs) (j : Nat) : w.frozen? ⟨g, j, none⟩ = false := frozen_of_row w g j _ T h
theorem Arr8.set {w : World} {g : Nat} {T : TypeId} {xs : List Int} (h : Arr8 w g T xs) (j : Nat) (x : Int) : Arr8 (w.setCell ⟨g, j, none⟩ (.int .u8 x)) g T (xs.set j x) := by
 have := heap_setCell_same w g j _ T (.int .u8 x) h
 unfold Arr8
 rw [this]
 simp [List.map_set]
theorem bytes_one (xs : List Int) : (xs.map (Value.int .u8)).toArray.all (·.oneCell') = true :=
 all_oneCell_toArray (by intro v hv; obtain ⟨n, _, rfl⟩ := List.mem_map.1 hv; rfl)
theorem take_set_next (xs : List Int) (t : Nat) (x : Int) (h : t < xs.length) : (xs.set t x).take (t + 1) = xs.take t ++ [x] := by
 rw [List.take_succ_eq_append_getElem (by simpa using h), List.take_set_of_le (Nat.le_refl t)]
 simp
structure Made (w w' : World) (c : Array Value) (T : TypeId) : Prop where
 at' : w'.heap[w.heap.size]? = some (.cells c T (0, 0))
 size : w'.heap.size = w.heap.size + 1
 below : Below w.heap.size w w'
structure Put (w w' : World) (g : Nat) (c : Array Value) (T : TypeId) : Prop where
 at' : w'.heap[g]? = some (.cells c T (0, 0))
 size : w'.heap.size = w.heap.size
 other : ∀ k, k ≠ g → w'.heap[k]? = w.heap[k]?
 below : ∀ (B : Nat) (a : World), Below B a w → B ≤ g → Below B a w'
theorem Made.mk' {w : World} {c : Array Value} {T : TypeId} : Made w (w.alloc (.cells c T)) c T :=
 ⟨heap_alloc_new w _, by simp, (Below.refl _ _).alloc (Nat.le_refl _) _⟩
theorem Put.mk' {w : World} {g : Nat} {c c' : Array Value} {T : TypeId} (hb : w.heap[g]? = some (.cells c T (0, 0))) : Put w (w.setRow g c') g c' T :=
 ⟨setRow_heap w g c c' T _ hb, by simp, fun k hk => setRow_other w g k c' hk, fun _ _ h hB => below_setRow h hB c'⟩
theorem wpList_new_arr {P : Program} {w : World} {ops : Array Oper} {rest : List Oper} {o : Oper} {a : Act} {Q : Exit → Act → World → Prop} (hgd : o.guard = none) (T : TypeId) (ho : o.op = .alloc T)
  (i : TypeInfo) (z : Array Value) (hi : P.info? T = some i) (hz : i.zero = some (.agg z))
  (h : ∀ w', Hid (Made w w' z T) → wpList P ops Q rest (a.put o.dst (.pointer (some ⟨w.heap.size, 0, none⟩))) w') : wpList P ops Q (o :: rest) a w := by
 refine wpList_alloc_arr hgd T ho i (.agg z) hi hz fun w' e => ?_
 have e' : w' = w.alloc (.cells z T) := e
 subst e'
 exact h _ Made.mk'
theorem wpList_put_arr {P : Program} {w : World} {ops : Array Oper} {rest : List Oper} {o : Oper} {a : Act} {Q : Exit → Act → World → Prop} (hgd : o.guard = none) (T : TypeId) (x y : Operand) (ho : o.op = .store T x y)
  (g : Nat) (c c' : Array Value) (hx : a.eval x = .pointer (some ⟨g, 0, none⟩)) (hy : a.eval y = .agg c') (hb : w.heap[g]? = some (.cells c T (0, 0))) (hs : c.size = c'.size) (hi : (P.info? T).map (·.size) = some c'.size) (h1 : c'.all (·.oneCell') = true)
  (h : ∀ w', Hid (Put w w' g c' T) → wpList P ops Q rest (a.put o.dst undef) w') : wpList P ops Q (o :: rest) a w :=
 wpList_store_arr hgd T x y ho g c c' hx hy hb hs hi h1 (h _ (Put.mk' hb))
theorem size_is {P : Program} {e : TypeId} {n : Nat} (h : (P.info? e).map (·.size) = some n) (w : World) : (sizeOf e).run P w = .ok n w := by
 cases hq : P.info? e with
 | none => rw [hq] at h; cases h
 | some i => rw [hq] at h; simp at h; simp [sizeOf, typeInfo, hq, h, Result.andThen]
theorem run_index_arr {P : Program} (w : World) (t e : TypeId) (n : Nat) (cs : Array Value) (k k' : IntKind) (i : Nat) (v : Value) (h : P.underlying t = some (.array n e)) (he : P.underlying e = some (.int k')) (hs : (P.info? e).map (·.size) = some 1) (hi : i < n) (hv : cs[i]? = some v) :
  (Instr.index t (.agg cs) (.int k (i : Int))).run P w = .ok v w := by
 have h1 : (0 : Int) ≤ (i : Int) ∧ (i : Int) < (n : Int) := by omega
 simp [Instr.index, run_underlying h, asIntOf, h1, size_is hs, part, isAgg, run_underlying he, hv, Result.andThen]
 omega
theorem Put.cell {w w' : World} {g : Nat} {c : Array Value} {T : TypeId} (h : Put w w' g c T) {p : Addr} (hp : p.block ≠ g) : w'.cell? p = w.cell? p := World.cell?_of_block (w := w) (h.other p.block hp)
section
variable {P : Program} {ops : Array Oper} {Q : Exit → Act → World → Prop} {md : Region.Mode} {S : World → Prop} {z : Nat}
def Till (P : Program) (md : Region.Mode) (ops : Array Oper) (Q : Exit → Act → World → Prop) (S : World → Prop) (z : Nat) : Nat → Array Bool → Act → World → Prop
 | 0, listed, a, w => Region.ready md ops listed = [] ∧ Q .normal a w
 | f + 1, listed, a, w => (Region.ready md ops listed = [] → Q .normal a w) ∧ ∀ i ∈ Region.ready md ops listed, wpOp P ops Q i (fun a' w' => (i = z ∨ S w') ∧ Till P md ops Q S z f (listed.setIfInBounds i true) a' w') a w
theorem Till.any : ∀ (f : Nat) (listed : Array Bool) (a : Act) (w : World), Till P md ops Q S z f listed a w → wpAny P md ops Q f listed a w
 | 0, _, _, _, h => h
 | f + 1, _, _, _, h => ⟨h.1, fun i hi => wpOp_mono (fun a' w' h' => Till.any f _ a' w' h'.2) (h.2 i hi)⟩
theorem Till.first {i : Nat} {oi oz : Oper} {v : Value} (hi : ops[i]? = some oi) (hz : ops[z]? = some oz) (hwait : ∃ e ∈ oz.after, Region.binds md e = true ∧ e.on = i)
  (hsel : ∀ (j : Nat) (o : Oper) cs b, ops[j]? = some o → o.op ≠ .select cs b) (hQ : ∀ c a w, Q (.panic c) (a.put oi.dst v) w → Q (.panic c) a w) :
  ∀ (f : Nat) (listed : Array Bool) (a : Act) (w : World),
   (∀ j oj, ops[j]? = some oj → j ≠ i → listed.getD j true = false → (∀ e ∈ oj.after, Region.binds md e = true → e.on ≠ i) → oi.apart ops oj = true) →
   i ∈ Region.ready md ops listed → YieldsIf P ops S oi v a → S w →
   Till P md ops Q S z f (listed.setIfInBounds i true) (a.put oi.dst v) w → Till P md ops Q S z (f + 1) listed a w := by
 intro f
 induction f with
 | zero =>
  intro listed a w _ hr hy hS H
  refine ⟨fun h => (by rw [h] at hr; cases hr), fun j hj => ?_⟩
  by_cases e : j = i
  ·rw [e]
   exact hy.wpOp hi hS ⟨Or.inr hS, H⟩
  ·exact absurd (ready_mono hj e) (by rw [H.1]; simp)
 | succ f ih =>
  intro listed a w hfree hr hy hS H
  refine ⟨fun h => (by rw [h] at hr; cases hr), fun j hj => ?_⟩
  by_cases e : j = i
  ·rw [e]
   exact hy.wpOp hi hS ⟨Or.inr hS, H⟩
  ·obtain ⟨hun, oj, hoj, hall⟩ := mem_ready.1 hj
   have hi0 := (mem_ready.1 hr).1
   -- nobody who may come up now waits for number i
   have hnot : ∀ x ∈ oj.after, Region.binds md x = true → x.on ≠ i := fun x hx hb he => by
    have h1 := hall x hx hb
    rw [he] at h1
    rcases Nat.lt_or_ge i listed.size with hl | hl
    ·simp [hl] at hi0 h1
     rw [hi0] at h1
     cases h1
    ·simp [Array.getElem?_eq_none hl] at h1
   have hjz : j ≠ z := fun he => by
    obtain ⟨x, hx, hb, hon⟩ := hwait
    rw [he] at hoj
    rw [hoj] at hz
    cases hz
    exact hnot x hx hb hon
   have h2 := wpOp_putIf hoj (hfree j oj hoj e hun hnot) (fun cs b => hsel i oi cs b hi) (fun cs b => hsel j oj cs b hoj) hQ hy (H.2 j (ready_mono hj e))
   refine wpOp_mono (fun a' w' h3 => ?_) h2
   obtain ⟨hy', hS', hT⟩ := h3
   have hSw : S w' := hS'.resolve_left hjz
   refine ⟨Or.inr hSw, ih (listed.setIfInBounds j true) a' w' (fun k ok hk hki hu hno => hfree k ok hk hki ?_ hno) (ready_mono hr (Ne.symm e)) hy' hSw ?_⟩
   ·by_cases hjk : j = k
    ·rw [← hjk]; exact hun
    ·rw [getD_set_ne true hjk] at hu; exact hu
   ·rw [Array.setIfInBounds_comm _ _ e]
    exact hT
theorem till_take {f : Nat} {listed : Array Bool} {a : Act} {w : World} (i : Nat) {oi oz : Oper} {v : Value} (d : Option Tmp) (hi : ops[i]? = some oi) (hd : oi.dst = d) (hz : ops[z]? = some oz) (hwait : (oz.after.any fun e => Region.binds md e && e.on == i) = true)
  (hs : Region.noSelect ops = true) (hf : Region.free md ops listed i = true) (hr : (Region.ready md ops listed).contains i = true)
  (hQ : ∀ c a w, Q (.panic c) (a.put d v) w → Q (.panic c) a w) (hy : YieldsIf P ops S oi v a) (hS : S w)
  (h : Till P md ops Q S z f (listed.setIfInBounds i true) (a.put d v) w) : Till P md ops Q S z (f + 1) listed a w := by
 subst hd
 refine Till.first hi hz ?_ (Region.noSelect_spec hs) hQ f listed a w (Region.free_spec hi hf) (by simpa using hr) hy hS h
 rw [Array.any_eq_true] at hwait
 obtain ⟨k, hk, hx⟩ := hwait
 rw [Bool.and_eq_true, beq_iff_eq] at hx
 exact ⟨_, Array.getElem_mem hk, hx.1, hx.2⟩
theorem till_one {f : Nat} {listed : Array Bool} {a : Act} {w : World} (i : Nat) {o : Oper} (hr : Region.ready md ops listed = [i]) (ho : ops[i]? = some o)
  (h : ∀ K' : Act → World → Prop, Shut (∀ a w, (i = z ∨ S w) → Till P md ops Q S z f (listed.setIfInBounds i true) a w → K' a w) → if Region.wanted o (yielded ops a.tmps) = true then Oper.wp P o a w K' Q else K' (a.put o.dst undef) w) :
  Till P md ops Q S z (f + 1) listed a w := by
 refine ⟨fun e => (by rw [e] at hr; cases hr), fun j hj => ?_⟩
 rw [hr, List.mem_singleton] at hj
 subst hj
 exact wpOp_step ho (fun K' hK => h K' (fun a w hS hT => hK a w ⟨hS, hT⟩))
theorem till_two {f : Nat} {listed : Array Bool} {a : Act} {w : World} (i j : Nat) {oi oj : Oper} (hr : Region.ready md ops listed = [i, j]) (hi : ops[i]? = some oi) (hj : ops[j]? = some oj)
  (h1 : ∀ K' : Act → World → Prop, Shut (∀ a w, (i = z ∨ S w) → Till P md ops Q S z f (listed.setIfInBounds i true) a w → K' a w) → if Region.wanted oi (yielded ops a.tmps) = true then Oper.wp P oi a w K' Q else K' (a.put oi.dst undef) w)
  (h2 : ∀ K' : Act → World → Prop, Shut (∀ a w, (j = z ∨ S w) → Till P md ops Q S z f (listed.setIfInBounds j true) a w → K' a w) → if Region.wanted oj (yielded ops a.tmps) = true then Oper.wp P oj a w K' Q else K' (a.put oj.dst undef) w) :
  Till P md ops Q S z (f + 1) listed a w := by
 refine ⟨fun e => (by rw [e] at hr; cases hr), fun k hk => ?_⟩
 rw [hr, List.mem_cons, List.mem_singleton] at hk
 rcases hk with e | e
 ·rw [e]
  exact wpOp_step hi (fun K' hK => h1 K' (fun a w hS hT => hK a w ⟨hS, hT⟩))
 ·rw [e]
  exact wpOp_step hj (fun K' hK => h2 K' (fun a w hS hT => hK a w ⟨hS, hT⟩))
theorem till_done {listed : Array Bool} {a : Act} {w : World} (hr : Region.ready md ops listed = []) (h : Q .normal a w) : ∀ f, Till P md ops Q S z f listed a w
 | 0 => ⟨hr, h⟩
 | _ + 1 => ⟨fun _ => h, by rw [hr]; simp⟩
theorem till_begin {id : Nat} {a : Act} {w : World} (z : Nat) (hm : P.follows .mixedOrders = true) (h : Till P .any ops Q S z ops.size (Array.replicate ops.size false) a w.drew) : (Code.region id ops true).wp P Q a w :=
 wp_region_any hm (Till.any _ _ _ _ h)
end
def cmpI (a b : Int) : Int := if a < b then -1 else if b < a then 1 else 0
def cmpS (a b : ByteArray) : Int := if Op.bytesLess a.toList b.toList = true then -1 else if Op.bytesLess b.toList a.toList = true then 1 else 0
def ordN (k n : Int) (s : ByteArray) (k' n' : Int) (s' : ByteArray) (c : Int) : Int :=
 if cmpI k k' ≠ 0 then cmpI k k' else if cmpI n n' ≠ 0 then cmpI n n' else if cmpS s s' ≠ 0 then cmpS s s' else c
def ordL : Bool → List Vl → List ByteArray → List Vl → List ByteArray → Int
 | _, [], _, [], _ => 0
 | _, [], _, _ :: _, _ => -1
 | _, _ :: _, _, [], _ => 1
 | r, .mk k n s l q :: xs, ks, .mk k' n' s' l' q' :: ys, ks' =>
  if r = true ∧ cmpS (ks.headD ⟨#[]⟩) (ks'.headD ⟨#[]⟩) ≠ 0 then cmpS (ks.headD ⟨#[]⟩) (ks'.headD ⟨#[]⟩) else if ordN k n s k' n' s' (ordL (decide (k = 5)) l q l' q') ≠ 0 then ordN k n s k' n' s' (ordL (decide (k = 5)) l q l' q') else ordL r xs ks.tail ys ks'.tail
def ord : Vl → Vl → Int
 | .mk k n s l ks, .mk k' n' s' l' ks' =>
  if cmpI k k' ≠ 0 then cmpI k k' else if cmpI n n' ≠ 0 then cmpI n n' else if cmpS s s' ≠ 0 then cmpS s s' else ordL (decide (k = 5)) l ks l' ks'
theorem ordL_cons (r : Bool) (x : Vl) (xs : List Vl) (ks : List ByteArray) (y : Vl) (ys : List Vl) (ks' : List ByteArray) : ordL r (x :: xs) ks (y :: ys) ks' =
  if r = true ∧ cmpS (ks.headD ⟨#[]⟩) (ks'.headD ⟨#[]⟩) ≠ 0 then cmpS (ks.headD ⟨#[]⟩) (ks'.headD ⟨#[]⟩) else if ord x y ≠ 0 then ord x y else ordL r xs ks.tail ys ks'.tail := by
 cases x
 cases y
 rw [ordL]
 rfl
theorem bl_irr : ∀ (a : List UInt8), Op.bytesLess a a = false
 | [] => rfl
 | x :: r => by
  simp only [Op.bytesLess, bl_irr r, Bool.and_false, Bool.or_false]
  exact decide_eq_false (fun e => by have := UInt8.lt_iff_toNat_lt.1 e; omega)
theorem cmpS_zero (a b : ByteArray) : (cmpS a b = 0) ↔ a.toList = b.toList := by
 have h := bl_not a.toList b.toList
 unfold cmpS
 constructor
 ·intro hc
  cases h1 : Op.bytesLess a.toList b.toList with
  | true => simp [h1] at hc
  | false =>
   cases h2 : Op.bytesLess b.toList a.toList with
   | true => simp [h1, h2] at hc
   | false =>
    rw [h1, h2] at h
    simp at h
    exact h.symm
 ·intro e
  rw [e]
  simp [bl_irr]
theorem ordL_step (r : Bool) (l l' : List Vl) (ks ks' : List ByteArray) (i : Nat) (x y : Vl) (hx : l[i]? = some x) (hy : l'[i]? = some y) :
  ordL r (l.drop i) (ks.drop i) (l'.drop i) (ks'.drop i) = if r = true ∧ cmpS (ks.getD i ⟨#[]⟩) (ks'.getD i ⟨#[]⟩) ≠ 0 then cmpS (ks.getD i ⟨#[]⟩) (ks'.getD i ⟨#[]⟩) else if ord x y ≠ 0 then ord x y else ordL r (l.drop (i + 1)) (ks.drop (i + 1)) (l'.drop (i + 1)) (ks'.drop (i + 1)) := by
 obtain ⟨h1, rfl⟩ := List.getElem?_eq_some_iff.1 hx
 obtain ⟨h2, rfl⟩ := List.getElem?_eq_some_iff.1 hy
 rw [List.drop_eq_getElem_cons h1, List.drop_eq_getElem_cons h2]
 have e1 : ∀ (k : List ByteArray), (k.drop i).headD ⟨#[]⟩ = k.getD i ⟨#[]⟩ := fun k => by
  rw [List.getD_eq_getElem?_getD, List.headD_eq_head?_getD, List.head?_drop]
 have e2 : ∀ (k : List ByteArray), (k.drop i).tail = k.drop (i + 1) := fun k => by rw [List.tail_drop]
 rw [ordL_cons]
 simp only [e1, e2]
theorem ordL_nl (r : Bool) (ks : List ByteArray) (l' : List Vl) (ks' : List ByteArray) (h : 0 < l'.length) : ordL r [] ks l' ks' = -1 := by
 cases l' with
 | nil => simp at h
 | cons y ys => simp only [ordL]
theorem ordL_ln (r : Bool) (l : List Vl) (ks ks' : List ByteArray) (h : 0 < l.length) : ordL r l ks [] ks' = 1 := by
 cases l with
 | nil => simp at h
 | cons y ys => simp only [ordL]
theorem ordL_end (r : Bool) (l l' : List Vl) (ks ks' : List ByteArray) (i : Nat) (h : i = min l.length l'.length) :
  ordL r (l.drop i) (ks.drop i) (l'.drop i) (ks'.drop i) = cmpI (l.length : Int) (l'.length : Int) := by
 unfold cmpI
 by_cases h1 : l.length < l'.length
 ·rw [List.drop_eq_nil_of_le (show l.length ≤ i by omega), if_pos (by omega)]
  exact ordL_nl r _ _ _ (by rw [List.length_drop]; omega)
 ·by_cases h2 : l'.length < l.length
  ·rw [List.drop_eq_nil_of_le (show l'.length ≤ i by omega), if_neg (by omega), if_pos (by omega)]
   exact ordL_ln r _ _ _ (by rw [List.length_drop]; omega)
  ·rw [List.drop_eq_nil_of_le (show l.length ≤ i by omega), List.drop_eq_nil_of_le (show l'.length ≤ i by omega), if_neg (by omega), if_neg (by omega)]
   simp only [ordL]
theorem nan_i (a : Int) (w : World) : Calls Tryz.prog 184 #[.int .i64 a] w fun e w' => e = .returned (.bool false) ∧ w' = w := by
 go_enter Tryz.func184, Tryz.ntmps184
 go_wp2
 go_ret
 exact ⟨by simp, rfl⟩
theorem nan_j (a : Int) (w : World) : Calls Tryz.prog 185 #[.int .i64 a] w fun e w' => e = .returned (.bool false) ∧ w' = w := by
 go_enter Tryz.func185, Tryz.ntmps185
 go_wp2
 go_ret
 exact ⟨by simp, rfl⟩
theorem nan_s (a : ByteArray) (w : World) : Calls Tryz.prog 160 #[.string a] w fun e w' => e = .returned (.bool false) ∧ w' = w := by
 go_enter Tryz.func160, Tryz.ntmps160
 go_wp2
 go_ret
 exact ⟨by simp, rfl⟩
theorem cmp_i (a b : Int) (w : World) : Calls Tryz.prog 167 #[.int .i64 a, .int .i64 b] w fun e w' => e = .returned (.int .i64 (cmpI a b)) ∧ w' = w := by
 have C1 := hide (nan_i a w)
 have C2 := hide (nan_i b w)
 go_enter Tryz.func167, Tryz.ntmps167
 go_wp2_with fail
 refine (uh C1).mono ?_
 rintro e w' ⟨rfl, rfl⟩
 go_wp2_with fail
 refine (uh C2).mono ?_
 rintro e w' ⟨rfl, rfl⟩
 clear C1 C2
 go_wp2_with fail
 all_goals (go_ret; exact ⟨by simp_all [cmpI] <;> (intros; omega), rfl⟩)
theorem cmp_j (a b : Int) (w : World) : Calls Tryz.prog 168 #[.int .i64 a, .int .i64 b] w fun e w' => e = .returned (.int .i64 (cmpI a b)) ∧ w' = w := by
 have C1 := hide (nan_j a w)
 have C2 := hide (nan_j b w)
 go_enter Tryz.func168, Tryz.ntmps168
 go_wp2_with fail
 refine (uh C1).mono ?_
 rintro e w' ⟨rfl, rfl⟩
 go_wp2_with fail
 refine (uh C2).mono ?_
 rintro e w' ⟨rfl, rfl⟩
 clear C1 C2
 go_wp2_with fail
 all_goals (go_ret; exact ⟨by simp_all [cmpI] <;> (intros; omega), rfl⟩)
theorem cmp_s (a b : ByteArray) (w : World) : Calls Tryz.prog 153 #[.string a, .string b] w fun e w' => e = .returned (.int .i64 (cmpS a b)) ∧ w' = w := by
 have C1 := hide (nan_s a w)
 have C2 := hide (nan_s b w)
 have hn := bl_not b.toList a.toList
 cases h1 : Op.bytesLess a.toList b.toList with
 | true =>
  have HG : Hid (cmpS a b = -1) := hide (by simp [cmpS, h1])
  go_enter Tryz.func153, Tryz.ntmps153
  go_wp2_with fail
  refine (uh C1).mono ?_
  rintro e w' ⟨rfl, rfl⟩
  go_wp2_with fail
  refine (uh C2).mono ?_
  rintro e w' ⟨rfl, rfl⟩
  clear C1 C2
  go_wp2_with fail
  go_ret
  exact ⟨by rw [uh HG]; rfl, rfl⟩
 | false =>
  have hg : (Op.bytesLess a.toList b.toList || a.toList == b.toList) = !(Op.bytesLess b.toList a.toList) := by rw [hn, Bool.not_not]
  rw [h1, Bool.false_or] at hg
  cases h2 : Op.bytesLess b.toList a.toList with
  | true =>
   have HG : Hid (cmpS a b = 1) := hide (by simp [cmpS, h1, h2])
   rw [h2] at hg
   have hgt : (!(Op.bytesLess a.toList b.toList || a.toList == b.toList)) = true := by rw [h1, hg]; rfl
   clear hn
   go_enter Tryz.func153, Tryz.ntmps153
   go_wp2_with fail
   refine (uh C1).mono ?_
   rintro e w' ⟨rfl, rfl⟩
   go_wp2_with fail
   refine (uh C2).mono ?_
   rintro e w' ⟨rfl, rfl⟩
   clear C1 C2
   go_wp2_with fail
   go_ret
   exact ⟨by rw [uh HG]; rfl, rfl⟩
  | false =>
   have HG : Hid (cmpS a b = 0) := hide (by simp [cmpS, h1, h2])
   rw [h2] at hg
   have hgt : (!(Op.bytesLess a.toList b.toList || a.toList == b.toList)) = false := by rw [h1, hg]; rfl
   clear hn
   go_enter Tryz.func153, Tryz.ntmps153
   go_wp2_with fail
   refine (uh C1).mono ?_
   rintro e w' ⟨rfl, rfl⟩
   go_wp2_with fail
   refine (uh C2).mono ?_
   rintro e w' ⟨rfl, rfl⟩
   clear C1 C2
   go_wp2_with fail
   go_ret
   exact ⟨by rw [uh HG]; rfl, rfl⟩
end Go.Proofs.YtgkmdjmigehmeaaGreatDoor

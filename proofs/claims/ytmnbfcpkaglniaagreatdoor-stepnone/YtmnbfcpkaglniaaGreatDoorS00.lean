/-
  A fact put out of the walk's sight, and taken out again; no conditions.
  A meter in memory, and what gas's functions answer of one (layer 11); no conditions.
  The machine's table of operations (layer 8) in memory; Info and Named of it; conditions: the package's variables.
-/
import Derived.WalkKit
import Derived.Test.YtmnbfcpkaglniaaGreatDoorChecked
import Derived.WalkSpells
import Derived.OpenShut
import Derived.Below
import Derived.Deep.QuietTactic
import Derived.BigQuiet
import Derived.LoopTactic
import Derived.Deep.RegionHeld3
import Derived.WalkSmall
import Derived.Laws.Cover1
import Derived.Lib.Builder
import Derived.Test.YtmnbfcpkaglniaaGreatDoorRows
import Derived.Deep.Cut
import Derived.Laws.ResultCell
import Derived.Laws.Rows
import Derived.Laws.Tables
set_option linter.unusedVariables false
set_option linter.unusedSimpArgs false
namespace Go.Proofs.YtmnbfcpkaglniaaGreatDoor
open Go.RowKit
theorem hide {p : Prop} (h : p) : Hid p := h
theorem unhide {p : Prop} (h : Hid p) : p := h
/-- the cells of a meter -/
def mtC (lim left : Int) (sp : Bool) (out : Option Addr) : Array Value := #[.int .i64 lim, .int .i64 left, .bool sp, .pointer out]
/-- a meter in memory -/
def Mt (w : World) (g : Nat) (lim left : Int) (sp : Bool) (out : Option Addr) : Prop := w.heap[g]? = some (.cells (mtC lim left sp out) 105 (0, 0))
section
variable {w w' : World} {g : Nat} {lim left : Int} {sp : Bool} {out : Option Addr}
theorem Mt.cells (h : Mt w g lim left sp out) : w.cell? ⟨g, 0, none⟩ = some (.int .i64 lim) ∧ w.cell? ⟨g, 1, none⟩ = some (.int .i64 left) ∧ w.cell? ⟨g, 2, none⟩ = some (.bool sp) ∧ w.cell? ⟨g, 3, none⟩ = some (.pointer out) :=
  ⟨by rw [cell_of_row w _ 0 _ _ (0, 0) h]; rfl, by rw [cell_of_row w _ 1 _ _ (0, 0) h]; rfl, by rw [cell_of_row w _ 2 _ _ (0, 0) h]; rfl, by rw [cell_of_row w _ 3 _ _ (0, 0) h]; rfl⟩
theorem Mt.free (h : Mt w g lim left sp out) (k : Nat) : w.frozen? ⟨g, k, none⟩ = false := frozen_of_row w g k _ _ h
theorem Mt.lt (h : Mt w g lim left sp out) : g < w.heap.size := (Array.getElem?_eq_some_iff.1 h).1
theorem Mt.later (h : Mt w g lim left sp out) (he : w'.heap[g]? = w.heap[g]?) : Mt w' g lim left sp out := he.trans h
theorem Mt.setLeft (h : Mt w g lim left sp out) (n : Int) : Mt (w.setCell ⟨g, 1, none⟩ (.int .i64 n)) g lim n sp out := heap_setCell_same w g 1 _ _ _ h
theorem Mt.setSpent (h : Mt w g lim left sp out) (s : Bool) : Mt (w.setCell ⟨g, 2, none⟩ (.bool s)) g lim left s out := heap_setCell_same w g 2 _ _ _ h
theorem Mt.setOut (h : Mt w g lim left sp out) (o : Option Addr) : Mt (w.setCell ⟨g, 3, none⟩ (.pointer o)) g lim left sp o := heap_setCell_same w g 3 _ _ _ h
end
/-- all blocks but one as before -/
structure Beside (gr : Nat) (w w' : World) : Prop where
  os : w'.os = w.os
  tape : w'.tape = w.tape
  output : w'.output = w.output
  size : w.heap.size ≤ w'.heap.size
  block : ∀ k, k < w.heap.size → k ≠ gr → w'.heap[k]? = w.heap[k]?
theorem Beside.refl (gr : Nat) (w : World) : Beside gr w w := ⟨rfl, rfl, rfl, Nat.le_refl _, fun _ _ _ => rfl⟩
theorem Beside.trans {gr : Nat} {w w1 w2 : World} (h : Beside gr w w1) (h' : Beside gr w1 w2) : Beside gr w w2 :=
  ⟨h'.os.trans h.os, h'.tape.trans h.tape, h'.output.trans h.output, Nat.le_trans h.size h'.size, fun k hk hn => (h'.block k (Nat.lt_of_lt_of_le hk h.size) hn).trans (h.block k hk hn)⟩
theorem Beside.of_below {gr : Nat} {w w' : World} (h : Below w.heap.size w w') : Beside gr w w' :=
  ⟨h.os, h.tape, h.output, h.size, fun k hk _ => h.block k hk⟩
theorem Beside.below {gr B : Nat} {w w' : World} (h : Beside gr w w') (hB : B ≤ gr) (hs : B ≤ w.heap.size) : Below B w w' :=
  ⟨h.os, h.tape, h.output, h.size, fun k hk => h.block k (by omega) (by omega)⟩
theorem Beside.drew {gr : Nat} {w w' : World} (h : Beside gr w w') (n : Nat) : Beside gr w (w'.drewN n) :=
  h.trans (Beside.of_below (below_drewN (Below.refl _ _) n))
theorem Beside.set {gr f : Nat} {w w' : World} {v : Value} (h : Beside gr w w') : Beside gr w (w'.setCell ⟨gr, f, none⟩ v) := by
  have hb := (Below.refl 0 w').setCell (p := ⟨gr, f, none⟩) (Nat.zero_le _) v
  exact ⟨hb.os.trans h.os, hb.tape.trans h.tape, hb.output.trans h.output, Nat.le_trans h.size hb.size, fun k hk hn => by rw [heap_setCell_other _ _ _ _ hn]; exact h.block k hk hn⟩
theorem Mt.beside {w w' : World} {g gr : Nat} {lim left : Int} {sp : Bool} {out : Option Addr} (h : Mt w g lim left sp out) (hb : Beside gr w w') (hn : g ≠ gr) : Mt w' g lim left sp out := h.later (hb.block g h.lt hn)
theorem Mt.below {w w' : World} {g : Nat} {lim left : Int} {sp : Bool} {out : Option Addr} (h : Mt w g lim left sp out) (hb : Below w.heap.size w w') : Mt w' g lim left sp out := h.later (hb.block g h.lt)
set_option maxRecDepth 100000 in
theorem full_any (n : Int) (w : World) : Calls Tryz.prog 47 #[.int .i64 n] w fun e w' => e = .returned (.pointer (some ⟨w.heap.size, 0, none⟩)) ∧ w' = w.alloc (.cells (mtC n n false none) 105) := by
  go_enter Tryz.func47, Tryz.ntmps47
  go_wp2_with fail
  go_ret
  exact ⟨rfl, rfl⟩
/-- may a meter have this limit -/
def alwB (n : Int) : Bool := decide (0 ≤ n ∧ n ≤ 1000000)
theorem alw_yes {n : Int} (h0 : 0 ≤ n) (h1 : n ≤ 1000000) : alwB n = true := by simp [alwB, h0, h1]
theorem alw_no {n : Int} (h : n < 0 ∨ 1000000 < n) : alwB n = false := by simp [alwB]; omega
theorem of_alw {n : Int} (h : alwB n = true) : 0 ≤ n ∧ n ≤ 1000000 := by simpa [alwB] using h
theorem of_not_alw {n : Int} (h : alwB n = false) : n < 0 ∨ 1000000 < n := by simp [alwB] at h; omega
set_option maxRecDepth 100000 in
theorem allowed_any (n : Int) (w : World) : Calls Tryz.prog 46 #[.int .i64 n] w fun e w' => e = .returned (.bool (alwB n)) ∧ w' = w := by
  by_cases h0 : n < 0
  · rw [alw_no (.inl h0)]
    go_enter Tryz.func46, Tryz.ntmps46
    go_wp2_with fail
    go_ret
    exact ⟨rfl, rfl⟩
  · have h0' : 0 ≤ n := by omega
    by_cases h1 : n ≤ 1000000
    · rw [alw_yes h0' h1]
      go_enter Tryz.func46, Tryz.ntmps46
      go_wp2_with fail
      go_ret
      exact ⟨rfl, rfl⟩
    · rw [alw_no (.inr (by omega))]
      go_enter Tryz.func46, Tryz.ntmps46
      go_wp2_with fail
      go_ret
      exact ⟨rfl, rfl⟩
set_option maxRecDepth 100000 in
theorem new_ok (n : Int) (w : World) (h : alwB n = true) : Calls Tryz.prog 25 #[.int .i64 n] w fun e w' => e = .returned (.tuple #[.pointer (some ⟨w.heap.size, 0, none⟩), .int .i64 0]) ∧ w' = w.alloc (.cells (mtC n n false none) 105) := by
  go_enter Tryz.func25, Tryz.ntmps25
  go_wp2_with fail
  refine (allowed_any _ _).mono ?_
  rintro e w1 ⟨rfl, rfl⟩
  go_wp2_with fail
  refine (full_any _ _).mono ?_
  rintro e w2 ⟨rfl, rfl⟩
  go_wp2_with fail
  go_ret2
  exact ⟨rfl, rfl⟩
set_option maxRecDepth 100000 in
theorem new_no (n : Int) (w : World) (h : alwB n = false) : Calls Tryz.prog 25 #[.int .i64 n] w fun e w' => e = .returned (.tuple #[.pointer none, .int .i64 110]) ∧ w' = w := by
  go_enter Tryz.func25, Tryz.ntmps25
  go_wp2_with fail
  refine (allowed_any _ _).mono ?_
  rintro e w1 ⟨rfl, rfl⟩
  go_wp2_with fail
  go_ret2
  exact ⟨rfl, rfl⟩
section
variable {w : World} {g : Nat} {lim left : Int} {sp : Bool} {out : Option Addr}
set_option maxRecDepth 100000 in
theorem charge_none (n : Int) (w : World) : Calls Tryz.prog 16 #[.pointer none, .int .i64 n] w fun e w' => e = .returned (.bool false) ∧ w' = w := by
  go_enter Tryz.func16, Tryz.ntmps16
  go_wp2_with fail
  go_ret
  exact ⟨rfl, rfl⟩
set_option maxRecDepth 100000 in
theorem charge_neg (n : Int) (hn : n < 0) (g : Nat) (w : World) : Calls Tryz.prog 16 #[.pointer (some ⟨g, 0, none⟩), .int .i64 n] w fun e w' => e = .returned (.bool false) ∧ w' = w := by
  go_enter Tryz.func16, Tryz.ntmps16
  go_wp2_with fail
  go_ret
  exact ⟨rfl, rfl⟩
set_option maxRecDepth 100000 in
theorem charge_spent (n : Int) (hn : 0 ≤ n) (h : Mt w g lim left true out) : Calls Tryz.prog 16 #[.pointer (some ⟨g, 0, none⟩), .int .i64 n] w fun e w' => e = .returned (.bool false) ∧ w' = w := by
  obtain ⟨c0, c1, c2, c3⟩ := h.cells
  have hg := h.lt
  clear h
  go_enter Tryz.func16, Tryz.ntmps16
  go_wp2_with fail
  go_ret
  exact ⟨rfl, rfl⟩
set_option maxRecDepth 100000 in
theorem charge_over (n : Int) (hn : 0 ≤ n) (hl : left < n) (h : Mt w g lim left false out) : Calls Tryz.prog 16 #[.pointer (some ⟨g, 0, none⟩), .int .i64 n] w fun e w' => e = .returned (.bool false) ∧ w' = (w.setCell ⟨g, 1, none⟩ (.int .i64 0)).setCell ⟨g, 2, none⟩ (.bool true) := by
  obtain ⟨c0, c1, c2, c3⟩ := h.cells
  have hg := h.lt
  have f1 := h.free 1
  have f2 := h.free 2
  clear h
  go_enter Tryz.func16, Tryz.ntmps16
  go_wp2_with fail
  go_ret
  exact ⟨rfl, rfl⟩
set_option maxRecDepth 100000 in
theorem charge_ok (n : Int) (hn : 0 ≤ n) (hl : n ≤ left) (hm : left ≤ 1000000) (h : Mt w g lim left false out) : Calls Tryz.prog 16 #[.pointer (some ⟨g, 0, none⟩), .int .i64 n] w fun e w' => e = .returned (.bool true) ∧ w' = w.setCell ⟨g, 1, none⟩ (.int .i64 (left - n)) := by
  obtain ⟨c0, c1, c2, c3⟩ := h.cells
  have hg := h.lt
  have f1 := h.free 1
  have f2 := h.free 2
  clear h
  go_enter Tryz.func16, Tryz.ntmps16
  go_wp2_with fail
  go_ret
  exact ⟨rfl, rfl⟩
set_option maxRecDepth 100000 in
theorem left_none (w : World) : Calls Tryz.prog 23 #[.pointer none] w fun e w' => e = .returned (.int .i64 0) ∧ w' = w := by
  go_enter Tryz.func23, Tryz.ntmps23
  go_wp2_with fail
  go_ret
  exact ⟨rfl, rfl⟩
set_option maxRecDepth 100000 in
theorem left_any (h : Mt w g lim left sp out) : Calls Tryz.prog 23 #[.pointer (some ⟨g, 0, none⟩)] w fun e w' => e = .returned (.int .i64 left) ∧ w' = w := by
  obtain ⟨c0, c1, c2, c3⟩ := h.cells
  have hg := h.lt
  clear h
  go_enter Tryz.func23, Tryz.ntmps23
  go_wp2_with fail
  go_ret
  exact ⟨rfl, rfl⟩
end
/-- a row of the table: name, sort of operand, takes, gives, base, rate -/
abbrev Inf := ByteArray × Int × Int × Int × Int × Int
def infV (x : Inf) : List Value := [.string x.1, .int .i64 x.2.1, .int .i64 x.2.2.1, .int .i64 x.2.2.2.1, .int .i64 x.2.2.2.2.1, .int .i64 x.2.2.2.2.2]
def infOf : DataW Unit → Inf
  | .agg [.lit (.string n), .lit (.int _ a), .lit (.int _ b), .lit (.int _ c), .lit (.int _ d), .lit (.int _ e)] => (⟨n.toArray⟩, a, b, c, d, e)
  | _ => (⟨#[]⟩, 0, 0, 0, 0, 0)
/-- the rows, by the operations' numbers -/
def OPS : List Inf := match (Rows.laid_scruple_code_operations : DataW Unit) with
  | .agg ps => ps.map infOf
  | _ => []
theorem OPS_len : OPS.length = 42 := by kernel_rfl
def blank : Inf := (⟨#[]⟩, 0, 0, 0, 0, 0)
/-- what Info answers -/
def infoA (n : Int) : Inf × Bool := if 1 ≤ n ∧ n ≤ 41 then (OPS.getD n.toNat blank, true) else (blank, false)
/-- the table in memory -/
structure Tab (w : World) : Prop where
  big : 1 < w.heap.size
  cell : ∀ k x, OPS[k]? = some x → ∀ j v, (infV x)[j]? = some v → w.cell? ⟨1, k * 6 + j, none⟩ = some v
theorem Tab.later {B : Nat} {w w' : World} (h : Tab w) (hb : Below B w w') (hB : 1 < B) (hs : w.heap.size ≤ w'.heap.size) : Tab w' := by
  refine ⟨Nat.lt_of_lt_of_le h.big hs, fun k x hx j v hv => ?_⟩
  have e : w'.cell? ⟨1, k * 6 + j, none⟩ = w.cell? ⟨1, k * 6 + j, none⟩ := World.cell?_of_block (hb.block 1 hB)
  rw [e]
  exact h.cell k x hx j v hv
theorem Tab.below {w w' : World} (h : Tab w) (hb : Below w.heap.size w w') : Tab w' := h.later hb h.big hb.size
theorem getD_ops (k : Nat) (hk : k < 42) : OPS[k]? = some (OPS.getD k blank) := by
  have := OPS_len
  rw [List.getD_eq_getElem?_getD, List.getElem?_eq_getElem (by omega)]
  rfl
/-- two results, the first of which lies in memory -/
theorem ret_ct {P : Program} {fn : Func} {p u : Tmp} {T : TypeId} (h : fn.results = #[.cell p T, .tmp u]) (tmps : Array Value) (w : World) (g : Nat) (c : Array Value) (d : TypeDesc) (t : TypeId)
    (hp : tmps.getD p undef = .pointer (some ⟨g, 0, none⟩)) (hb : w.heap[g]? = some (.cells c t (0, 0))) (hu : P.underlying T = some d) (hd : (match d with | .struct _ | .array _ _ => true | _ => false) = true) (hi : (P.info? T).map (·.size) = some c.size) :
    (results fn tmps).run P w = .ok (.tuple #[.agg c, tmps.getD u undef]) w := by
  rw [results_cell_tmp h, hp]
  have hl := run_loadVar_row (P := P) w g t T c (0, 0) _ hb hu hd hi
  simp [asAddr, Result.andThen, hl]
/-- three results, the first of which lies in memory -/
theorem ret_ctt {P : Program} {fn : Func} {p u v : Tmp} {T : TypeId} (h : fn.results = #[.cell p T, .tmp u, .tmp v]) (tmps : Array Value) (w : World) (g : Nat) (c : Array Value) (d : TypeDesc) (t : TypeId)
    (hp : tmps.getD p undef = .pointer (some ⟨g, 0, none⟩)) (hb : w.heap[g]? = some (.cells c t (0, 0))) (hu : P.underlying T = some d) (hd : (match d with | .struct _ | .array _ _ => true | _ => false) = true) (hi : (P.info? T).map (·.size) = some c.size) :
    (results fn tmps).run P w = .ok (.tuple #[.agg c, tmps.getD u undef, tmps.getD v undef]) w := by
  have hl := run_loadVar_row (P := P) w g t T c (0, 0) _ hb hu hd hi
  have hp' : tmps[p]?.getD undef = .pointer (some ⟨g, 0, none⟩) := by simpa using hp
  simp [results, h, hp', asAddr, Result.andThen, hl]
theorem size_inf : (Tryz.prog.info? 98).map (·.size) = some 6 := by kernel_rfl
set_option maxRecDepth 100000 in
theorem info_any (n : Int) (w : World) (h : Tab w) :
    Calls Tryz.prog 34 #[.int .i64 n] w fun e w' => e = .returned (.tuple #[.agg (infV (infoA n).1).toArray, .bool (infoA n).2]) ∧ Below w.heap.size w w' := by
  by_cases hn : 1 ≤ n ∧ n ≤ 41
  · obtain ⟨k, rfl⟩ : ∃ k : Nat, n = (k : Int) := ⟨n.toNat, by omega⟩
    have hk := getD_ops k (by omega)
    have hb : 1 < w.heap.size := h.big
    have e1 : (infoA (k : Int)) = (OPS.getD k blank, true) := by simp [infoA, hn]
    rw [e1]
    generalize OPS.getD k blank = x at *
    obtain ⟨s, a, b, c, d, f⟩ := x
    have c0 : w.cell? ⟨1, k * 6, none⟩ = some (.string s) := h.cell k _ hk 0 _ rfl
    have c1 : w.cell? ⟨1, k * 6 + 1, none⟩ = some (.int .i64 a) := h.cell k _ hk 1 _ rfl
    have c2 : w.cell? ⟨1, k * 6 + 2, none⟩ = some (.int .i64 b) := h.cell k _ hk 2 _ rfl
    have c3 : w.cell? ⟨1, k * 6 + 3, none⟩ = some (.int .i64 c) := h.cell k _ hk 3 _ rfl
    have c4 : w.cell? ⟨1, k * 6 + 4, none⟩ = some (.int .i64 d) := h.cell k _ hk 4 _ rfl
    have c5 : w.cell? ⟨1, k * 6 + 5, none⟩ = some (.int .i64 f) := h.cell k _ hk 5 _ rfl
    obtain ⟨n1, n2⟩ := hn
    have n3 : ¬ (k : Int) < 1 := by omega
    have n4 : ¬ 42 ≤ (k : Int) := by omega
    have n5 : (k : Int) < 42 := by omega
    clear hk h e1
    go_enter Tryz.func34, Tryz.ntmps34
    go_wp2_with fail
    exact bodyPost_ret (ret_ct (p := 2) (u := 3) (T := 98) rfl _ _ w.heap.size _ _ _ rfl (heap_alloc_new w _) Tryz.underlying98 rfl size_inf) rfl ⟨rfl, (Below.refl _ _).alloc (Nat.le_refl _) _⟩
  · have e1 : infoA n = (blank, false) := by simp [infoA, hn]
    rw [e1]
    by_cases n1 : n < 1
    · go_enter Tryz.func34, Tryz.ntmps34
      go_wp2_with fail
      exact bodyPost_ret (ret_ct (p := 2) (u := 3) (T := 98) rfl _ _ w.heap.size _ _ _ rfl (heap_alloc_new w _) Tryz.underlying98 rfl size_inf) rfl ⟨rfl, (Below.refl _ _).alloc (Nat.le_refl _) _⟩
    · have n2 : 42 ≤ n := by omega
      go_enter Tryz.func34, Tryz.ntmps34
      go_wp2_with fail
      exact bodyPost_ret (ret_ct (p := 2) (u := 3) (T := 98) rfl _ _ w.heap.size _ _ _ rfl (heap_alloc_new w _) Tryz.underlying98 rfl size_inf) rfl ⟨rfl, (Below.refl _ _).alloc (Nat.le_refl _) _⟩
/-- at which place (less 1) the name stands; 41: at none -/
def nidx (s : ByteArray) : Nat := OPS.tail.findIdx fun x => x.1.toList == s.toList
/-- what Named answers -/
def namA (s : ByteArray) : Int × Bool := if nidx s < 41 then (((nidx s + 1 : Nat) : Int), true) else (0, false)
theorem nidx_le (s : ByteArray) : nidx s ≤ 41 := by
  have h := List.findIdx_le_length (p := fun x : Inf => x.1.toList == s.toList) (xs := OPS.tail)
  have := OPS_len
  rw [List.length_tail] at h
  unfold nidx
  omega
theorem nidx_hit (s : ByteArray) (i : Nat) (x : Inf) (hx : OPS[i + 1]? = some x) (hs : (x.1.toList == s.toList) = true) (hi : i ≤ nidx s) : nidx s = i := by
  have hx' : OPS.tail[i]? = some x := by rw [List.getElem?_tail]; exact hx
  obtain ⟨hl, he⟩ := List.getElem?_eq_some_iff.1 hx'
  unfold nidx at *
  rw [List.findIdx_eq hl]
  refine ⟨by rw [he]; exact hs, fun j hj => ?_⟩
  simpa using List.not_of_lt_findIdx (Nat.lt_of_lt_of_le hj hi)
theorem nidx_miss (s : ByteArray) (i : Nat) (x : Inf) (hx : OPS[i + 1]? = some x) (hs : (x.1.toList == s.toList) = false) (hi : i ≤ nidx s) : i + 1 ≤ nidx s := by
  have hx' : OPS.tail[i]? = some x := by rw [List.getElem?_tail]; exact hx
  obtain ⟨hl, he⟩ := List.getElem?_eq_some_iff.1 hx'
  unfold nidx at *
  rcases Nat.lt_or_ge i (OPS.tail.findIdx fun x => x.1.toList == s.toList) with h | h
  · exact h
  · have e := Nat.le_antisymm hi h
    have := List.findIdx_getElem (xs := OPS.tail) (p := fun x : Inf => x.1.toList == s.toList) (w := by omega)
    simp only [← e] at this
    rw [he, hs] at this
    exact absurd this (by simp)
end Go.Proofs.YtmnbfcpkaglniaaGreatDoor

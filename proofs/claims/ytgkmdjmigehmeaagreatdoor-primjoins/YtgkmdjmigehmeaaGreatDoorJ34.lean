/-
  The machine's table of operations (layer 8) in memory; Info and Named of it; conditions: the package's variables.
-/
import Derived.Test.YtgkmdjmigehmeaaGreatDoorRows
import Derived.Test.YtgkmdjmigehmeaaGreatDoorJ00
import Derived.WalkKit
import Derived.WalkSpells
import Derived.WalkSmall
import Derived.Deep.Cut
import Derived.BigQuiet
import Derived.Deep.QuietTactic
import Derived.Deep.RegionHeld3
import Derived.OpenShut
import Derived.Laws.ResultCell
import Derived.Laws.Rows
import Derived.Laws.Tables
set_option linter.unusedVariables false
set_option linter.unusedSimpArgs false
namespace Go.Proofs.YtgkmdjmigehmeaaGreatDoor
open Go.RowKit

/-- a row of the table: name, sort of operand, takes, gives, base, rate -/
abbrev Inf := ByteArray × Int × Int × Int × Int × Int

def infV (x : Inf) : List Value := [.string x.1, .int .i64 x.2.1, .int .i64 x.2.2.1, .int .i64 x.2.2.2.1, .int .i64 x.2.2.2.2.1, .int .i64 x.2.2.2.2.2]

def infOf : DataW Unit → Inf
  | .agg [.lit (.string n), .lit (.int _ a), .lit (.int _ b), .lit (.int _ c), .lit (.int _ d), .lit (.int _ e)] => (⟨n.toArray⟩, a, b, c, d, e)
  | _ => (⟨#[]⟩, 0, 0, 0, 0, 0)

/-- the rows, by the operations' numbers -/
def OPS : List Inf := match (Rows.laid_scruple_code_operations : DataW Unit) with
  | .agg ps => ps.map infOf
  | _ => []

theorem OPS_len : OPS.length = 42 := by kernel_rfl

def blank : Inf := (⟨#[]⟩, 0, 0, 0, 0, 0)

/-- what Info answers -/
def infoA (n : Int) : Inf × Bool := if 1 ≤ n ∧ n ≤ 41 then (OPS.getD n.toNat blank, true) else (blank, false)

/-- the table in memory -/
structure Tab (w : World) : Prop where
  big : 0 < w.heap.size
  cell : ∀ k x, OPS[k]? = some x → ∀ j v, (infV x)[j]? = some v → w.cell? ⟨0, k * 6 + j, none⟩ = some v

theorem Tab.later {B : Nat} {w w' : World} (h : Tab w) (hb : Below B w w') (hB : 0 < B) (hs : w.heap.size ≤ w'.heap.size) : Tab w' := by
  refine ⟨Nat.lt_of_lt_of_le h.big hs, fun k x hx j v hv => ?_⟩
  have e : w'.cell? ⟨0, k * 6 + j, none⟩ = w.cell? ⟨0, k * 6 + j, none⟩ := World.cell?_of_block (hb.block 0 hB)
  rw [e]
  exact h.cell k x hx j v hv

theorem Tab.below {w w' : World} (h : Tab w) (hb : Below w.heap.size w w') : Tab w' := h.later hb h.big hb.size

theorem getD_ops (k : Nat) (hk : k < 42) : OPS[k]? = some (OPS.getD k blank) := by
  have := OPS_len
  rw [List.getD_eq_getElem?_getD, List.getElem?_eq_getElem (by omega)]
  rfl

/-- two results, the first of which lies in memory -/
theorem ret_ct {P : Program} {fn : Func} {p u : Tmp} {T : TypeId} (h : fn.results = #[.cell p T, .tmp u]) (tmps : Array Value) (w : World) (g : Nat) (c : Array Value) (d : TypeDesc) (t : TypeId)
    (hp : tmps.getD p undef = .pointer (some ⟨g, 0, none⟩)) (hb : w.heap[g]? = some (.cells c t (0, 0))) (hu : P.underlying T = some d) (hd : (match d with | .struct _ | .array _ _ => true | _ => false) = true) (hi : (P.info? T).map (·.size) = some c.size) :
    (results fn tmps).run P w = .ok (.tuple #[.agg c, tmps.getD u undef]) w := by
  rw [results_cell_tmp h, hp]
  have hl := run_loadVar_row (P := P) w g t T c (0, 0) _ hb hu hd hi
  simp [asAddr, Result.andThen, hl]

/-- three results, the first of which lies in memory -/
theorem ret_ctt {P : Program} {fn : Func} {p u v : Tmp} {T : TypeId} (h : fn.results = #[.cell p T, .tmp u, .tmp v]) (tmps : Array Value) (w : World) (g : Nat) (c : Array Value) (d : TypeDesc) (t : TypeId)
    (hp : tmps.getD p undef = .pointer (some ⟨g, 0, none⟩)) (hb : w.heap[g]? = some (.cells c t (0, 0))) (hu : P.underlying T = some d) (hd : (match d with | .struct _ | .array _ _ => true | _ => false) = true) (hi : (P.info? T).map (·.size) = some c.size) :
    (results fn tmps).run P w = .ok (.tuple #[.agg c, tmps.getD u undef, tmps.getD v undef]) w := by
  have hl := run_loadVar_row (P := P) w g t T c (0, 0) _ hb hu hd hi
  have hp' : tmps[p]?.getD undef = .pointer (some ⟨g, 0, none⟩) := by simpa using hp
  simp [results, h, hp', asAddr, Result.andThen, hl]

theorem size_inf : (Tryz.prog.info? 73).map (·.size) = some 6 := by kernel_rfl

set_option maxRecDepth 100000 in
theorem info_any (n : Int) (w : World) (h : Tab w) :
    Calls Tryz.prog 42 #[.int .i64 n] w fun e w' => e = .returned (.tuple #[.agg (infV (infoA n).1).toArray, .bool (infoA n).2]) ∧ Below w.heap.size w w' := by
  by_cases hn : 1 ≤ n ∧ n ≤ 41
  · obtain ⟨k, rfl⟩ : ∃ k : Nat, n = (k : Int) := ⟨n.toNat, by omega⟩
    have hk := getD_ops k (by omega)
    have hb : 0 < w.heap.size := h.big
    have e1 : (infoA (k : Int)) = (OPS.getD k blank, true) := by simp [infoA, hn]
    rw [e1]
    generalize OPS.getD k blank = x at *
    obtain ⟨s, a, b, c, d, f⟩ := x
    have c0 : w.cell? ⟨0, k * 6, none⟩ = some (.string s) := h.cell k _ hk 0 _ rfl
    have c1 : w.cell? ⟨0, k * 6 + 1, none⟩ = some (.int .i64 a) := h.cell k _ hk 1 _ rfl
    have c2 : w.cell? ⟨0, k * 6 + 2, none⟩ = some (.int .i64 b) := h.cell k _ hk 2 _ rfl
    have c3 : w.cell? ⟨0, k * 6 + 3, none⟩ = some (.int .i64 c) := h.cell k _ hk 3 _ rfl
    have c4 : w.cell? ⟨0, k * 6 + 4, none⟩ = some (.int .i64 d) := h.cell k _ hk 4 _ rfl
    have c5 : w.cell? ⟨0, k * 6 + 5, none⟩ = some (.int .i64 f) := h.cell k _ hk 5 _ rfl
    obtain ⟨n1, n2⟩ := hn
    have n3 : ¬ (k : Int) < 1 := by omega
    have n4 : ¬ 42 ≤ (k : Int) := by omega
    have n5 : (k : Int) < 42 := by omega
    clear hk h e1
    go_enter Tryz.func42, Tryz.ntmps42
    go_wp2_with fail
    exact bodyPost_ret (ret_ct (p := 2) (u := 3) (T := 73) rfl _ _ w.heap.size _ _ _ rfl (heap_alloc_new w _) Tryz.underlying73 rfl size_inf) rfl ⟨rfl, (Below.refl _ _).alloc (Nat.le_refl _) _⟩
  · have e1 : infoA n = (blank, false) := by simp [infoA, hn]
    rw [e1]
    by_cases n1 : n < 1
    · go_enter Tryz.func42, Tryz.ntmps42
      go_wp2_with fail
      exact bodyPost_ret (ret_ct (p := 2) (u := 3) (T := 73) rfl _ _ w.heap.size _ _ _ rfl (heap_alloc_new w _) Tryz.underlying73 rfl size_inf) rfl ⟨rfl, (Below.refl _ _).alloc (Nat.le_refl _) _⟩
    · have n2 : 42 ≤ n := by omega
      go_enter Tryz.func42, Tryz.ntmps42
      go_wp2_with fail
      exact bodyPost_ret (ret_ct (p := 2) (u := 3) (T := 73) rfl _ _ w.heap.size _ _ _ rfl (heap_alloc_new w _) Tryz.underlying73 rfl size_inf) rfl ⟨rfl, (Below.refl _ _).alloc (Nat.le_refl _) _⟩

/-- at which place (less 1) the name stands; 41: at none -/
def nidx (s : ByteArray) : Nat := OPS.tail.findIdx fun x => x.1.toList == s.toList

/-- what Named answers -/
def namA (s : ByteArray) : Int × Bool := if nidx s < 41 then (((nidx s + 1 : Nat) : Int), true) else (0, false)

theorem nidx_le (s : ByteArray) : nidx s ≤ 41 := by
  have h := List.findIdx_le_length (p := fun x : Inf => x.1.toList == s.toList) (xs := OPS.tail)
  have := OPS_len
  rw [List.length_tail] at h
  unfold nidx
  omega

theorem nidx_hit (s : ByteArray) (i : Nat) (x : Inf) (hx : OPS[i + 1]? = some x) (hs : (x.1.toList == s.toList) = true) (hi : i ≤ nidx s) : nidx s = i := by
  have hx' : OPS.tail[i]? = some x := by rw [List.getElem?_tail]; exact hx
  obtain ⟨hl, he⟩ := List.getElem?_eq_some_iff.1 hx'
  unfold nidx at *
  rw [List.findIdx_eq hl]
  refine ⟨by rw [he]; exact hs, fun j hj => ?_⟩
  simpa using List.not_of_lt_findIdx (Nat.lt_of_lt_of_le hj hi)

theorem nidx_miss (s : ByteArray) (i : Nat) (x : Inf) (hx : OPS[i + 1]? = some x) (hs : (x.1.toList == s.toList) = false) (hi : i ≤ nidx s) : i + 1 ≤ nidx s := by
  have hx' : OPS.tail[i]? = some x := by rw [List.getElem?_tail]; exact hx
  obtain ⟨hl, he⟩ := List.getElem?_eq_some_iff.1 hx'
  unfold nidx at *
  rcases Nat.lt_or_ge i (OPS.tail.findIdx fun x => x.1.toList == s.toList) with h | h
  · exact h
  · have e := Nat.le_antisymm hi h
    have := List.findIdx_getElem (xs := OPS.tail) (p := fun x : Inf => x.1.toList == s.toList) (w := by omega)
    simp only [← e] at this
    rw [he, hs] at this
    exact absurd this (by simp)
end Go.Proofs.YtgkmdjmigehmeaaGreatDoor

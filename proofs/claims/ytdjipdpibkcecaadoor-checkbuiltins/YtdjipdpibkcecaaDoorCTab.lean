/-
  The machine's table of operations (layer 8) in memory; Info and Named of it; conditions: the package's variables.
-/
import Derived.Test.YtdjipdpibkcecaaDoorRows
import Derived.Test.YtdjipdpibkcecaaDoorHid
import Derived.WalkKit
import Derived.WalkSpells
import Derived.WalkSmall
import Derived.Deep.Cut
import Derived.BigQuiet
import Derived.Deep.QuietTactic
import Derived.Deep.RegionHeld3
import Derived.OpenShut
import Derived.Laws.ResultCell
import Derived.Laws.Rows
import Derived.Laws.Tables
namespace Go.Proofs.YtdjipdpibkcecaaDoor
open Go.RowKit

/-- a row of the table: name, sort of operand, takes, gives, base, rate -/
abbrev Inf := ByteArray × Int × Int × Int × Int × Int

def infV (x : Inf) : List Value := [.string x.1, .int .i64 x.2.1, .int .i64 x.2.2.1, .int .i64 x.2.2.2.1, .int .i64 x.2.2.2.2.1, .int .i64 x.2.2.2.2.2]

def infOf : DataW Unit → Inf
  | .agg [.lit (.string n), .lit (.int _ a), .lit (.int _ b), .lit (.int _ c), .lit (.int _ d), .lit (.int _ e)] => (⟨n.toArray⟩, a, b, c, d, e)
  | _ => (⟨#[]⟩, 0, 0, 0, 0, 0)

/-- the rows, by the operations' numbers -/
def OPS : List Inf := match (Rows.laid_scruple_code_operations : DataW Unit) with
  | .agg ps => ps.map infOf
  | _ => []

theorem OPS_len : OPS.length = 42 := by kernel_rfl

def blank : Inf := (⟨#[]⟩, 0, 0, 0, 0, 0)

/-- what Info answers -/
def infoA (n : Int) : Inf × Bool := if 1 ≤ n ∧ n ≤ 41 then (OPS.getD n.toNat blank, true) else (blank, false)

/-- the table in memory -/
structure Tab (w : World) : Prop where
  big : 0 < w.heap.size
  cell : ∀ k x, OPS[k]? = some x → ∀ j v, (infV x)[j]? = some v → w.cell? ⟨0, k * 6 + j, none⟩ = some v

theorem Tab.later {B : Nat} {w w' : World} (h : Tab w) (hb : Below B w w') (hB : 0 < B) (hs : w.heap.size ≤ w'.heap.size) : Tab w' := by
  refine ⟨Nat.lt_of_lt_of_le h.big hs, fun k x hx j v hv => ?_⟩
  have e : w'.cell? ⟨0, k * 6 + j, none⟩ = w.cell? ⟨0, k * 6 + j, none⟩ := World.cell?_of_block (hb.block 0 hB)
  rw [e]
  exact h.cell k x hx j v hv

theorem Tab.below {w w' : World} (h : Tab w) (hb : Below w.heap.size w w') : Tab w' := h.later hb h.big hb.size

theorem getD_ops (k : Nat) (hk : k < 42) : OPS[k]? = some (OPS.getD k blank) := by
  have := OPS_len
  rw [List.getD_eq_getElem?_getD, List.getElem?_eq_getElem (by omega)]
  rfl

/-- two results, the first of which lies in memory -/
theorem ret_ct {P : Program} {fn : Func} {p u : Tmp} {T : TypeId} (h : fn.results = #[.cell p T, .tmp u]) (tmps : Array Value) (w : World) (g : Nat) (c : Array Value) (d : TypeDesc) (t : TypeId)
    (hp : tmps.getD p undef = .pointer (some ⟨g, 0, none⟩)) (hb : w.heap[g]? = some (.cells c t (0, 0))) (hu : P.underlying T = some d) (hd : (match d with | .struct _ | .array _ _ => true | _ => false) = true) (hi : (P.info? T).map (·.size) = some c.size) :
    (results fn tmps).run P w = .ok (.tuple #[.agg c, tmps.getD u undef]) w := by
  rw [results_cell_tmp h, hp]
  have hl := run_loadVar_row (P := P) w g t T c (0, 0) _ hb hu hd hi
  simp [asAddr, Result.andThen, hl]

/-- three results, the first of which lies in memory -/
theorem ret_ctt {P : Program} {fn : Func} {p u v : Tmp} {T : TypeId} (h : fn.results = #[.cell p T, .tmp u, .tmp v]) (tmps : Array Value) (w : World) (g : Nat) (c : Array Value) (d : TypeDesc) (t : TypeId)
    (hp : tmps.getD p undef = .pointer (some ⟨g, 0, none⟩)) (hb : w.heap[g]? = some (.cells c t (0, 0))) (hu : P.underlying T = some d) (hd : (match d with | .struct _ | .array _ _ => true | _ => false) = true) (hi : (P.info? T).map (·.size) = some c.size) :
    (results fn tmps).run P w = .ok (.tuple #[.agg c, tmps.getD u undef, tmps.getD v undef]) w := by
  have hl := run_loadVar_row (P := P) w g t T c (0, 0) _ hb hu hd hi
  have hp' : tmps[p]?.getD undef = .pointer (some ⟨g, 0, none⟩) := by simpa using hp
  simp [results, h, hp', asAddr, Result.andThen, hl]

theorem size_inf : (Tryd.prog.info? 28).map (·.size) = some 6 := by kernel_rfl

set_option maxRecDepth 100000 in
theorem info_any (n : Int) (w : World) (h : Tab w) :
    Calls Tryd.prog 7 #[.int .i64 n] w fun e w' => e = .returned (.tuple #[.agg (infV (infoA n).1).toArray, .bool (infoA n).2]) ∧ Below w.heap.size w w' := by
  by_cases hn : 1 ≤ n ∧ n ≤ 41
  · obtain ⟨k, rfl⟩ : ∃ k : Nat, n = (k : Int) := ⟨n.toNat, by omega⟩
    have hk := getD_ops k (by omega)
    have hb : 0 < w.heap.size := h.big
    have e1 : (infoA (k : Int)) = (OPS.getD k blank, true) := by simp [infoA, hn]
    rw [e1]
    generalize OPS.getD k blank = x at *
    obtain ⟨s, a, b, c, d, f⟩ := x
    have c0 : w.cell? ⟨0, k * 6, none⟩ = some (.string s) := h.cell k _ hk 0 _ rfl
    have c1 : w.cell? ⟨0, k * 6 + 1, none⟩ = some (.int .i64 a) := h.cell k _ hk 1 _ rfl
    have c2 : w.cell? ⟨0, k * 6 + 2, none⟩ = some (.int .i64 b) := h.cell k _ hk 2 _ rfl
    have c3 : w.cell? ⟨0, k * 6 + 3, none⟩ = some (.int .i64 c) := h.cell k _ hk 3 _ rfl
    have c4 : w.cell? ⟨0, k * 6 + 4, none⟩ = some (.int .i64 d) := h.cell k _ hk 4 _ rfl
    have c5 : w.cell? ⟨0, k * 6 + 5, none⟩ = some (.int .i64 f) := h.cell k _ hk 5 _ rfl
    obtain ⟨n1, n2⟩ := hn
    have n3 : ¬ (k : Int) < 1 := by omega
    have n4 : ¬ 42 ≤ (k : Int) := by omega
    have n5 : (k : Int) < 42 := by omega
    clear hk h e1
    go_enter Tryd.func7, Tryd.ntmps7
    go_wp2_with fail
    exact bodyPost_ret (ret_ct (p := 2) (u := 3) (T := 28) rfl _ _ w.heap.size _ _ _ rfl (heap_alloc_new w _) Tryd.underlying28 rfl size_inf) rfl ⟨rfl, (Below.refl _ _).alloc (Nat.le_refl _) _⟩
  · have e1 : infoA n = (blank, false) := by simp [infoA, hn]
    rw [e1]
    by_cases n1 : n < 1
    · go_enter Tryd.func7, Tryd.ntmps7
      go_wp2_with fail
      exact bodyPost_ret (ret_ct (p := 2) (u := 3) (T := 28) rfl _ _ w.heap.size _ _ _ rfl (heap_alloc_new w _) Tryd.underlying28 rfl size_inf) rfl ⟨rfl, (Below.refl _ _).alloc (Nat.le_refl _) _⟩
    · have n2 : 42 ≤ n := by omega
      go_enter Tryd.func7, Tryd.ntmps7
      go_wp2_with fail
      exact bodyPost_ret (ret_ct (p := 2) (u := 3) (T := 28) rfl _ _ w.heap.size _ _ _ rfl (heap_alloc_new w _) Tryd.underlying28 rfl size_inf) rfl ⟨rfl, (Below.refl _ _).alloc (Nat.le_refl _) _⟩

/-- at which place (less 1) the name stands; 41: at none -/
def nidx (s : ByteArray) : Nat := OPS.tail.findIdx fun x => x.1.toList == s.toList

/-- what Named answers -/
def namA (s : ByteArray) : Int × Bool := if nidx s < 41 then (((nidx s + 1 : Nat) : Int), true) else (0, false)

theorem nidx_le (s : ByteArray) : nidx s ≤ 41 := by
  have h := List.findIdx_le_length (p := fun x : Inf => x.1.toList == s.toList) (xs := OPS.tail)
  have := OPS_len
  rw [List.length_tail] at h
  unfold nidx
  omega

theorem nidx_hit (s : ByteArray) (i : Nat) (x : Inf) (hx : OPS[i + 1]? = some x) (hs : (x.1.toList == s.toList) = true) (hi : i ≤ nidx s) : nidx s = i := by
  have hx' : OPS.tail[i]? = some x := by rw [List.getElem?_tail]; exact hx
  obtain ⟨hl, he⟩ := List.getElem?_eq_some_iff.1 hx'
  unfold nidx at *
  rw [List.findIdx_eq hl]
  refine ⟨by rw [he]; exact hs, fun j hj => ?_⟩
  simpa using List.not_of_lt_findIdx (Nat.lt_of_lt_of_le hj hi)

theorem nidx_miss (s : ByteArray) (i : Nat) (x : Inf) (hx : OPS[i + 1]? = some x) (hs : (x.1.toList == s.toList) = false) (hi : i ≤ nidx s) : i + 1 ≤ nidx s := by
  have hx' : OPS.tail[i]? = some x := by rw [List.getElem?_tail]; exact hx
  obtain ⟨hl, he⟩ := List.getElem?_eq_some_iff.1 hx'
  unfold nidx at *
  rcases Nat.lt_or_ge i (OPS.tail.findIdx fun x => x.1.toList == s.toList) with h | h
  · exact h
  · have e := Nat.le_antisymm hi h
    have := List.findIdx_getElem (xs := OPS.tail) (p := fun x : Inf => x.1.toList == s.toList) (w := by omega)
    simp only [← e] at this
    rw [he, hs] at this
    exact absurd this (by simp)

set_option maxRecDepth 100000 in
set_option maxHeartbeats 400000 in
theorem named_any (s : ByteArray) (w : World) (h : Tab w) :
    Calls Tryd.prog 6 #[.string s] w fun e w' => e = .returned (.tuple #[.int .i64 (namA s).1, .bool (namA s).2]) ∧ Below w.heap.size w w' := by
  have HT := hide h
  have hb : 0 < w.heap.size := h.big
  clear h
  obtain ⟨r1, hr1⟩ : ∃ r, (namA s).1 = r := ⟨_, rfl⟩
  obtain ⟨r2, hr2⟩ : ∃ r, (namA s).2 = r := ⟨_, rfl⟩
  rw [hr1, hr2]
  have HA := hide (And.intro hr1 hr2)
  clear hr1 hr2
  go_enter Tryd.func6, Tryd.ntmps6
  go_wp2_with fail
  go_loopw [4] (fun x wr => ∃ (i : Nat), x = .int .i64 (i : Int) ∧ Hid (1 ≤ i ∧ i ≤ 42 ∧ i ≤ nidx s + 1 ∧ Below w.heap.size w wr)) (fun x _ => 42 - (intOf x).toNat)
  case atStart => exact ⟨1, rfl, hide ⟨by omega, by omega, by omega, Below.refl _ _⟩⟩
  case round =>
    obtain ⟨i, rfl, HX⟩ := hrel
    obtain ⟨wq, hwq⟩ : ∃ wq, wq = wr := ⟨_, rfl⟩
    subst hwq
    by_cases hlt : i < 42
    · have i1 : (i : Int) < 42 := by omega
      have hx := getD_ops i hlt
      obtain ⟨x, hxx⟩ : ∃ x, OPS.getD i blank = x := ⟨_, rfl⟩
      rw [hxx] at hx
      have ht := (unhide HT).below (unhide HX).2.2.2
      obtain ⟨n, a, b, c, d, f⟩ := x
      have c0 : wq.cell? ⟨0, i * 6, none⟩ = some (.string n) := ht.cell i _ hx 0 _ rfl
      have HH : Hid (OPS[i - 1 + 1]? = some (n, a, b, c, d, f)) := hide (by rw [show i - 1 + 1 = i by have := (unhide HX).1; omega]; exact hx)
      have HJ : Hid (i - 1 ≤ nidx s) := hide (by have := (unhide HX).2.2.1; omega)
      have HL := hide hlt
      clear ht hx hxx
      cases hs : n.toList == s.toList with
      | true =>
        have HS : Hid (r1 = (i : Int) ∧ r2 = true) := hide (by
          have e := nidx_hit s (i - 1) _ (unhide HH) hs (unhide HJ)
          have e1 := (unhide HX).1
          rw [← (unhide HA).1, ← (unhide HA).2]
          unfold namA
          rw [e, if_pos (by omega)]
          exact ⟨by simp only []; omega, rfl⟩)
        clear HJ HH
        go_wp2_with fail
        go_ret2
        exact ⟨by rw [(unhide HS).1, (unhide HS).2]; rfl, (unhide HX).2.2.2⟩
      | false =>
        have HS : Hid (i + 1 ≤ nidx s + 1) := hide (by
          have e := nidx_miss s (i - 1) _ (unhide HH) hs (unhide HJ)
          have e1 := (unhide HX).1
          omega)
        have HI1 : Hid (1 ≤ i + 1 ∧ i + 1 ≤ 42) := hide (by omega)
        clear HJ HH
        go_wp2_with fail
        go_roundw
        case rel => exact ⟨i + 1, by go_num, hide ⟨(unhide HI1).1, (unhide HI1).2, unhide HS, (unhide HX).2.2.2⟩⟩
        case measure => have := unhide HL; simp [intOf]; omega
    · have hi : i = 42 := by have := (unhide HX).2.1; omega
      subst hi
      have HS : Hid (r1 = 0 ∧ r2 = false) := hide (by
        have e : ¬ nidx s < 41 := by have := (unhide HX).2.2.1; omega
        rw [← (unhide HA).1, ← (unhide HA).2]
        unfold namA
        rw [if_neg e]
        exact ⟨rfl, rfl⟩)
      go_wp2_with fail
      go_ret2
      exact ⟨by rw [(unhide HS).1, (unhide HS).2]; rfl, (unhide HX).2.2.2⟩
end Go.Proofs.YtdjipdpibkcecaaDoor

/-
  The machine's table of operations (layer 8) in memory; Info and Named of it; conditions: the package's variables.
  Instructions (layer 8): what is wrong with one, its bytes; the walks of fault and lay; conditions: the package's variables.
-/
import Derived.Test.YtdlgehnplkeoiaaDoorRows
import Derived.Test.YtdlgehnplkeoiaaDoorA00
import Derived.WalkKit
import Derived.WalkSpells
import Derived.WalkSmall
import Derived.Deep.Cut
import Derived.BigQuiet
import Derived.Deep.QuietTactic
import Derived.Deep.RegionHeld3
import Derived.OpenShut
import Derived.Laws.ResultCell
import Derived.Laws.Rows
import Derived.Laws.Tables
import Derived.Test.YtdlgehnplkeoiaaDoorA09
import Derived.Test.YtdlgehnplkeoiaaDoorA05
set_option linter.unusedVariables false
set_option linter.unusedSimpArgs false
namespace Go.Proofs.YtdlgehnplkeoiaaDoor
open Go.RowKit

/-- a row of the table: name, sort of operand, takes, gives, base, rate -/
abbrev Inf := ByteArray × Int × Int × Int × Int × Int

def infV (x : Inf) : List Value := [.string x.1, .int .i64 x.2.1, .int .i64 x.2.2.1, .int .i64 x.2.2.2.1, .int .i64 x.2.2.2.2.1, .int .i64 x.2.2.2.2.2]

def infOf : DataW Unit → Inf
  | .agg [.lit (.string n), .lit (.int _ a), .lit (.int _ b), .lit (.int _ c), .lit (.int _ d), .lit (.int _ e)] => (⟨n.toArray⟩, a, b, c, d, e)
  | _ => (⟨#[]⟩, 0, 0, 0, 0, 0)

/-- the rows, by the operations' numbers -/
def OPS : List Inf := match (Rows.laid_scruple_code_operations : DataW Unit) with
  | .agg ps => ps.map infOf
  | _ => []

theorem OPS_len : OPS.length = 42 := by kernel_rfl

def blank : Inf := (⟨#[]⟩, 0, 0, 0, 0, 0)

/-- what Info answers -/
def infoA (n : Int) : Inf × Bool := if 1 ≤ n ∧ n ≤ 41 then (OPS.getD n.toNat blank, true) else (blank, false)

/-- the table in memory -/
structure Tab (w : World) : Prop where
  big : 1 < w.heap.size
  cell : ∀ k x, OPS[k]? = some x → ∀ j v, (infV x)[j]? = some v → w.cell? ⟨1, k * 6 + j, none⟩ = some v

theorem Tab.later {B : Nat} {w w' : World} (h : Tab w) (hb : Below B w w') (hB : 1 < B) (hs : w.heap.size ≤ w'.heap.size) : Tab w' := by
  refine ⟨Nat.lt_of_lt_of_le h.big hs, fun k x hx j v hv => ?_⟩
  have e : w'.cell? ⟨1, k * 6 + j, none⟩ = w.cell? ⟨1, k * 6 + j, none⟩ := World.cell?_of_block (hb.block 1 hB)
  rw [e]
  exact h.cell k x hx j v hv

theorem Tab.below {w w' : World} (h : Tab w) (hb : Below w.heap.size w w') : Tab w' := h.later hb h.big hb.size

theorem getD_ops (k : Nat) (hk : k < 42) : OPS[k]? = some (OPS.getD k blank) := by
  have := OPS_len
  rw [List.getD_eq_getElem?_getD, List.getElem?_eq_getElem (by omega)]
  rfl

/-- two results, the first of which lies in memory -/
theorem ret_ct {P : Program} {fn : Func} {p u : Tmp} {T : TypeId} (h : fn.results = #[.cell p T, .tmp u]) (tmps : Array Value) (w : World) (g : Nat) (c : Array Value) (d : TypeDesc) (t : TypeId)
    (hp : tmps.getD p undef = .pointer (some ⟨g, 0, none⟩)) (hb : w.heap[g]? = some (.cells c t (0, 0))) (hu : P.underlying T = some d) (hd : (match d with | .struct _ | .array _ _ => true | _ => false) = true) (hi : (P.info? T).map (·.size) = some c.size) :
    (results fn tmps).run P w = .ok (.tuple #[.agg c, tmps.getD u undef]) w := by
  rw [results_cell_tmp h, hp]
  have hl := run_loadVar_row (P := P) w g t T c (0, 0) _ hb hu hd hi
  simp [asAddr, Result.andThen, hl]

/-- three results, the first of which lies in memory -/
theorem ret_ctt {P : Program} {fn : Func} {p u v : Tmp} {T : TypeId} (h : fn.results = #[.cell p T, .tmp u, .tmp v]) (tmps : Array Value) (w : World) (g : Nat) (c : Array Value) (d : TypeDesc) (t : TypeId)
    (hp : tmps.getD p undef = .pointer (some ⟨g, 0, none⟩)) (hb : w.heap[g]? = some (.cells c t (0, 0))) (hu : P.underlying T = some d) (hd : (match d with | .struct _ | .array _ _ => true | _ => false) = true) (hi : (P.info? T).map (·.size) = some c.size) :
    (results fn tmps).run P w = .ok (.tuple #[.agg c, tmps.getD u undef, tmps.getD v undef]) w := by
  have hl := run_loadVar_row (P := P) w g t T c (0, 0) _ hb hu hd hi
  have hp' : tmps[p]?.getD undef = .pointer (some ⟨g, 0, none⟩) := by simpa using hp
  simp [results, h, hp', asAddr, Result.andThen, hl]

theorem size_inf : (Tryd.prog.info? 64).map (·.size) = some 6 := by kernel_rfl

set_option maxRecDepth 100000 in
theorem info_any (n : Int) (w : World) (h : Tab w) :
    Calls Tryd.prog 52 #[.int .i64 n] w fun e w' => e = .returned (.tuple #[.agg (infV (infoA n).1).toArray, .bool (infoA n).2]) ∧ Below w.heap.size w w' := by
  by_cases hn : 1 ≤ n ∧ n ≤ 41
  · obtain ⟨k, rfl⟩ : ∃ k : Nat, n = (k : Int) := ⟨n.toNat, by omega⟩
    have hk := getD_ops k (by omega)
    have hb : 1 < w.heap.size := h.big
    have e1 : (infoA (k : Int)) = (OPS.getD k blank, true) := by simp [infoA, hn]
    rw [e1]
    generalize OPS.getD k blank = x at *
    obtain ⟨s, a, b, c, d, f⟩ := x
    have c0 : w.cell? ⟨1, k * 6, none⟩ = some (.string s) := h.cell k _ hk 0 _ rfl
    have c1 : w.cell? ⟨1, k * 6 + 1, none⟩ = some (.int .i64 a) := h.cell k _ hk 1 _ rfl
    have c2 : w.cell? ⟨1, k * 6 + 2, none⟩ = some (.int .i64 b) := h.cell k _ hk 2 _ rfl
    have c3 : w.cell? ⟨1, k * 6 + 3, none⟩ = some (.int .i64 c) := h.cell k _ hk 3 _ rfl
    have c4 : w.cell? ⟨1, k * 6 + 4, none⟩ = some (.int .i64 d) := h.cell k _ hk 4 _ rfl
    have c5 : w.cell? ⟨1, k * 6 + 5, none⟩ = some (.int .i64 f) := h.cell k _ hk 5 _ rfl
    obtain ⟨n1, n2⟩ := hn
    have n3 : ¬ (k : Int) < 1 := by omega
    have n4 : ¬ 42 ≤ (k : Int) := by omega
    have n5 : (k : Int) < 42 := by omega
    clear hk h e1
    go_enter Tryd.func52, Tryd.ntmps52
    go_wp2_with fail
    exact bodyPost_ret (ret_ct (p := 2) (u := 3) (T := 64) rfl _ _ w.heap.size _ _ _ rfl (heap_alloc_new w _) Tryd.underlying64 rfl size_inf) rfl ⟨rfl, (Below.refl _ _).alloc (Nat.le_refl _) _⟩
  · have e1 : infoA n = (blank, false) := by simp [infoA, hn]
    rw [e1]
    by_cases n1 : n < 1
    · go_enter Tryd.func52, Tryd.ntmps52
      go_wp2_with fail
      exact bodyPost_ret (ret_ct (p := 2) (u := 3) (T := 64) rfl _ _ w.heap.size _ _ _ rfl (heap_alloc_new w _) Tryd.underlying64 rfl size_inf) rfl ⟨rfl, (Below.refl _ _).alloc (Nat.le_refl _) _⟩
    · have n2 : 42 ≤ n := by omega
      go_enter Tryd.func52, Tryd.ntmps52
      go_wp2_with fail
      exact bodyPost_ret (ret_ct (p := 2) (u := 3) (T := 64) rfl _ _ w.heap.size _ _ _ rfl (heap_alloc_new w _) Tryd.underlying64 rfl size_inf) rfl ⟨rfl, (Below.refl _ _).alloc (Nat.le_refl _) _⟩

/-- at which place (less 1) the name stands; 41: at none -/
def nidx (s : ByteArray) : Nat := OPS.tail.findIdx fun x => x.1.toList == s.toList

/-- what Named answers -/
def namA (s : ByteArray) : Int × Bool := if nidx s < 41 then (((nidx s + 1 : Nat) : Int), true) else (0, false)

theorem nidx_le (s : ByteArray) : nidx s ≤ 41 := by
  have h := List.findIdx_le_length (p := fun x : Inf => x.1.toList == s.toList) (xs := OPS.tail)
  have := OPS_len
  rw [List.length_tail] at h
  unfold nidx
  omega

theorem nidx_hit (s : ByteArray) (i : Nat) (x : Inf) (hx : OPS[i + 1]? = some x) (hs : (x.1.toList == s.toList) = true) (hi : i ≤ nidx s) : nidx s = i := by
  have hx' : OPS.tail[i]? = some x := by rw [List.getElem?_tail]; exact hx
  obtain ⟨hl, he⟩ := List.getElem?_eq_some_iff.1 hx'
  unfold nidx at *
  rw [List.findIdx_eq hl]
  refine ⟨by rw [he]; exact hs, fun j hj => ?_⟩
  simpa using List.not_of_lt_findIdx (Nat.lt_of_lt_of_le hj hi)

theorem nidx_miss (s : ByteArray) (i : Nat) (x : Inf) (hx : OPS[i + 1]? = some x) (hs : (x.1.toList == s.toList) = false) (hi : i ≤ nidx s) : i + 1 ≤ nidx s := by
  have hx' : OPS.tail[i]? = some x := by rw [List.getElem?_tail]; exact hx
  obtain ⟨hl, he⟩ := List.getElem?_eq_some_iff.1 hx'
  unfold nidx at *
  rcases Nat.lt_or_ge i (OPS.tail.findIdx fun x => x.1.toList == s.toList) with h | h
  · exact h
  · have e := Nat.le_antisymm hi h
    have := List.findIdx_getElem (xs := OPS.tail) (p := fun x : Inf => x.1.toList == s.toList) (w := by omega)
    simp only [← e] at this
    rw [he, hs] at this
    exact absurd this (by simp)
end Go.Proofs.YtdlgehnplkeoiaaDoor

namespace Go.Proofs.YtdlgehnplkeoiaaDoor
open Go.RowKit

theorem below_drewN {B : Nat} {a w : World} (h : Below B a w) (q : Nat) : Below B a (w.drewN q) := ⟨h.os, h.tape, h.output, h.size, h.block⟩

def opdOf : DataW Unit → Int × Int
  | .agg [.lit (.int _ a), .lit (.int _ b)] => (a, b)
  | _ => (0, 0)

/-- of each sort of operand, in how many bytes it stands and how great it may be -/
def OPD : List (Int × Int) := match (Rows.laid_scruple_code_operands : DataW Unit) with
  | .agg ps => ps.map opdOf
  | _ => []

theorem OPD_len : OPD.length = 6 := by kernel_rfl
theorem OPD_is : OPD = [(0, 0), (1, 99), (1, 31), (2, 3999), (1, 23), (1, 40)] := by kernel_rfl

/-- both tables in memory -/
structure Tab2 (w : World) : Prop where
  tab : Tab w
  big : 1 < w.heap.size
  cell : ∀ k p, OPD[k]? = some p → w.cell? ⟨0, k * 2, none⟩ = some (.int .i64 p.1) ∧ w.cell? ⟨0, k * 2 + 1, none⟩ = some (.int .i64 p.2)

theorem Tab2.later {B : Nat} {w w' : World} (h : Tab2 w) (hb : Below B w w') (hB : 1 < B) (hs : w.heap.size ≤ w'.heap.size) : Tab2 w' := by
  refine ⟨h.tab.later hb (by omega) hs, Nat.lt_of_lt_of_le h.big hs, fun k x hx => ?_⟩
  have e1 : w'.cell? ⟨0, k * 2, none⟩ = w.cell? ⟨0, k * 2, none⟩ := World.cell?_of_block (hb.block 0 (by omega))
  have e2 : w'.cell? ⟨0, k * 2 + 1, none⟩ = w.cell? ⟨0, k * 2 + 1, none⟩ := World.cell?_of_block (hb.block 0 (by omega))
  rw [e1, e2]
  exact h.cell k x hx

theorem Tab2.below {w w' : World} (h : Tab2 w) (hb : Below w.heap.size w w') : Tab2 w' := h.later hb h.big hb.size

/-- the sort of an operation's operand -/
def srt (op : Int) : Nat := (infoA op).1.2.1.toNat
def siz (k : Nat) : Nat := (OPD.getD k (0, 0)).1.toNat
def mst (k : Nat) : Int := (OPD.getD k (0, 0)).2

theorem ops_sort : ∀ i : Fin 41, 0 ≤ (OPS.getD (i.val + 1) blank).2.1 ∧ (OPS.getD (i.val + 1) blank).2.1 ≤ 5 := by decide +kernel

theorem infoA_in (op : Int) (h : 1 ≤ op ∧ op ≤ 41) : infoA op = (OPS.getD op.toNat blank, true) := by
  unfold infoA
  rw [if_pos h]

theorem srt_is (op : Int) (h : 1 ≤ op ∧ op ≤ 41) : (OPS.getD op.toNat blank).2.1 = (srt op : Int) ∧ srt op ≤ 5 := by
  have := ops_sort ⟨op.toNat - 1, by omega⟩
  simp only [show op.toNat - 1 + 1 = op.toNat by omega] at this
  unfold srt
  rw [infoA_in op h]
  simp only []
  omega

theorem opd_at (k : Nat) (h : k ≤ 5) : OPD[k]? = some ((siz k : Int), mst k) ∧ siz k ≤ 2 ∧ 0 ≤ mst k ∧ mst k ≤ 3999 ∧ (siz k = 0 → mst k = 0) ∧ (siz k = 1 → mst k ≤ 255) := by
  unfold siz mst
  rw [OPD_is]
  match k, h with
  | 0, _ => decide
  | 1, _ => decide
  | 2, _ => decide
  | 3, _ => decide
  | 4, _ => decide
  | 5, _ => decide

/-- what is wrong with an instruction -/
def faultI (op a : Int) : Int := if 1 ≤ op ∧ op ≤ 41 then (if 0 ≤ a ∧ a ≤ mst (srt op) then 0 else 81) else 80

/-- the bytes of an operand -/
def tailB (a : Int) : Nat → List Int
  | 1 => [a % 256]
  | 2 => [a / 256, a % 256]
  | _ => []

/-- the bytes of an instruction -/
def insB (op a : Int) : List Int := op :: tailB a (siz (srt op))

theorem tailB_len (a : Int) (k : Nat) (h : k ≤ 2) : (tailB a k).length = k := by
  match k, h with
  | 0, _ => rfl
  | 1, _ => rfl
  | 2, _ => rfl

theorem fault_ok {op a : Int} (h : faultI op a = 0) : (1 ≤ op ∧ op ≤ 41) ∧ 0 ≤ a ∧ a ≤ mst (srt op) := by
  unfold faultI at h
  split at h
  · rename_i h1
    split at h
    · rename_i h2; exact ⟨h1, h2⟩
    · omega
  · omega

theorem insB_len (op a : Int) (h : faultI op a = 0) : (insB op a).length = 1 + siz (srt op) := by
  have h1 := fault_ok h
  have h2 := (opd_at (srt op) (srt_is op h1.1).2).2.1
  simp [insB, tailB_len a _ h2]
  omega

theorem insB_small (op a : Int) (h : faultI op a = 0) : ∀ c ∈ insB op a, 0 ≤ c ∧ c ≤ 255 := by
  have h1 := fault_ok h
  have h2 := opd_at (srt op) (srt_is op h1.1).2
  intro c hc
  unfold insB at hc
  rcases List.mem_cons.1 hc with rfl | hc
  · omega
  · generalize siz (srt op) = k at *
    match k, h2.2.1 with
    | 0, _ => cases hc
    | 1, _ => simp [tailB] at hc; omega
    | 2, _ => simp [tailB] at hc; omega

set_option maxRecDepth 100000 in
set_option maxHeartbeats 800000 in
theorem fault_any (op a : Int) (w : World) (h : Tab2 w) :
    Calls Tryd.prog 66 #[.agg #[.int .i64 op, .int .i64 a]] w fun e w' => e = .returned (.int .i64 (faultI op a)) ∧ Below w.heap.size w w' := by
  obtain ⟨w1, hw1⟩ : ∃ w1, w.alloc (.cells #[.int .i64 op, .int .i64 a] 47) = w1 := ⟨_, rfl⟩
  have B1 : Below w.heap.size w w1 := by rw [← hw1]; exact (Below.refl _ _).alloc (Nat.le_refl _) _
  have A1 : w1.heap[w.heap.size]? = some (.cells #[.int .i64 op, .int .i64 a] 47 (0, 0)) := by rw [← hw1]; exact heap_alloc_new _ _
  have Z1 : w1.heap.size = w.heap.size + 1 := by rw [← hw1]; simp
  have C1 := hide (info_any op w1 (h.below B1).tab)
  have c0 : w1.cell? ⟨w.heap.size, 0, none⟩ = some (.int .i64 op) := by rw [cell_of_row w1 _ 0 _ _ (0, 0) A1]; rfl
  have hbig := h.big
  have HT := hide h
  have H1 := hide (And.intro B1 (And.intro A1 Z1))
  obtain ⟨F, hF⟩ : ∃ F, faultI op a = F := ⟨_, rfl⟩
  rw [hF]
  clear h B1 A1 Z1
  by_cases hin : 1 ≤ op ∧ op ≤ 41
  · have e1 := infoA_in op hin
    have e2 := srt_is op hin
    have e3 := opd_at (srt op) e2.2
    rw [e1] at C1
    generalize OPS.getD op.toNat blank = x at *
    obtain ⟨xn, xa, xb, xc, xd, xf⟩ := x
    simp only [infV] at C1 e2
    obtain ⟨k, hk⟩ : ∃ k, srt op = k := ⟨_, rfl⟩
    rw [hk] at e2 e3
    obtain ⟨rfl, k5⟩ := e2
    obtain ⟨m, hm⟩ : ∃ m, mst k = m := ⟨_, rfl⟩
    rw [hm] at e3
    have HF : Hid ((0 ≤ a ∧ a ≤ m → F = 0) ∧ (¬ (0 ≤ a ∧ a ≤ m) → F = 81)) := hide (by
      rw [← hF]
      unfold faultI
      rw [if_pos hin, hk, hm]
      exact ⟨fun h => if_pos h, fun h => if_neg h⟩)
    have HO := hide e3.1
    clear e1 e3 hF hk hm hin
    go_enter Tryd.func66, Tryd.ntmps66
    go_wp2_with fail
    refine (unhide C1).mono ?_
    rintro e w2 ⟨rfl, B2⟩
    have H2 := hide B2
    clear B2 C1
    go_upto_region 4 with fail
    obtain ⟨w3, hw3⟩ : ∃ w3, w3 = w2.alloc (.cells #[.string xn, .int .i64 (k : Int), .int .i64 xb, .int .i64 xc, .int .i64 xd, .int .i64 xf] 64) := ⟨_, rfl⟩
    rw [← hw3]
    have A3 : w3.heap[w2.heap.size]? = some (.cells #[.string xn, .int .i64 (k : Int), .int .i64 xb, .int .i64 xc, .int .i64 xd, .int .i64 xf] 64 (0, 0)) := by rw [hw3]; exact heap_alloc_new w2 _
    have B3 : Below w1.heap.size w1 w3 := by rw [hw3]; exact (unhide H2).alloc (unhide H2).size _
    have X3 : Hid (Below w.heap.size w w3) := hide ((unhide H1).1.trans (B3.mono (unhide H1).1.size))
    have d1 : w3.cell? ⟨w2.heap.size, 1, none⟩ = some (.int .i64 (k : Int)) := by rw [cell_of_row w3 _ 1 _ _ (0, 0) A3]; rfl
    have A3' := (B3.block w.heap.size (by have := (unhide H1).2.2; omega)).trans (unhide H1).2.1
    have c1 : w3.cell? ⟨w.heap.size, 1, none⟩ = some (.int .i64 a) := by rw [cell_of_row w3 _ 1 _ _ (0, 0) A3']; rfl
    have t1 : w3.cell? ⟨0, k * 2 + 1, none⟩ = some (.int .i64 m) := (((unhide HT).below (unhide X3)).cell k _ (unhide HO)).2
    have k6 : (k : Int) < 6 := by omega
    clear hw3 A3 A3' B3 c0 hw1
    by_cases h0 : a < 0
    · have HE : Hid (F = 81) := hide ((unhide HF).2 (by omega))
      clear HF
      go_quiet (fail)
      go_wp2_with fail
      go_ret
      exact ⟨by rw [unhide HE]; rfl, below_drewN (unhide X3) _⟩
    · by_cases h1 : m < a
      · have HE : Hid (F = 81) := hide ((unhide HF).2 (by omega))
        clear HF
        go_quiet (fail)
        go_wp2_with fail
        go_ret
        exact ⟨by rw [unhide HE]; rfl, below_drewN (unhide X3) _⟩
      · have HE : Hid (F = 0) := hide ((unhide HF).1 (by omega))
        clear HF
        go_quiet (fail)
        go_wp2_with fail
        go_ret
        exact ⟨by rw [unhide HE]; rfl, below_drewN (unhide X3) _⟩
  · have e1 : infoA op = (blank, false) := by unfold infoA; rw [if_neg hin]
    rw [e1] at C1
    simp only [infV, blank] at C1
    have HE : Hid (F = 80) := hide (by rw [← hF]; unfold faultI; rw [if_neg hin])
    clear e1 hF hin
    go_enter Tryd.func66, Tryd.ntmps66
    go_wp2_with fail
    refine (unhide C1).mono ?_
    rintro e w2 ⟨rfl, B2⟩
    have H2 := hide B2
    clear B2 C1
    go_wp2_with fail
    go_ret
    refine ⟨by rw [unhide HE]; rfl, (unhide H1).1.trans (((unhide H2).mono (unhide H1).1.size).alloc ?_ _)⟩
    exact Nat.le_trans (unhide H1).1.size (unhide H2).size
end Go.Proofs.YtdlgehnplkeoiaaDoor

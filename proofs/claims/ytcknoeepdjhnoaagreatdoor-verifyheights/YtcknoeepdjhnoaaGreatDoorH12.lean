/-
  The walk of copied: a value in new memory, if it has few parts; conditions: the form's own reach.
  The machine's table of operations (layer 8) in memory; Info and Named of it; conditions: the package's variables.
  Instructions (layer 8): what is wrong with one, its bytes; the walks of fault and lay; conditions: the package's variables.
  The walk of code.Put: an instruction behind bytes, in new memory; conditions: the package's variables, the bytes at most 2^47.
  Laws for arrays in memory, whole: a load, a store, of whatever cells; rows of bytes; no conditions.
  Laws for variables that hold whole arrays or structs: made, written, with the worlds behind them as letters; no conditions.
-/
import Derived.Test.YtcknoeepdjhnoaaGreatDoorH11
import Derived.Test.YtcknoeepdjhnoaaGreatDoorH10
import Derived.Test.YtcknoeepdjhnoaaGreatDoorRows
import Derived.Test.YtcknoeepdjhnoaaGreatDoorH00
import Derived.WalkKit
import Derived.WalkSpells
import Derived.WalkSmall
import Derived.Deep.Cut
import Derived.BigQuiet
import Derived.Deep.QuietTactic
import Derived.Deep.RegionHeld3
import Derived.OpenShut
import Derived.Laws.ResultCell
import Derived.Laws.Rows
import Derived.Laws.Tables
import Derived.Test.YtcknoeepdjhnoaaGreatDoorH05
import Derived.Deep.WholeRow
import Derived.Deep.MidRow
import Derived.Laws.CopyOwn
set_option linter.unusedVariables false
set_option linter.unusedSimpArgs false
namespace Go.Proofs.YtcknoeepdjhnoaaGreatDoor
open Go.RowKit

/-- two boxes, one behind the other -/
structure Two (w w2 : World) (g : Nat) (T : TypeId) (x y : Array Value) : Prop where
  at0 : w2.heap[g]? = some (.cells x T (0, 0))
  at1 : w2.heap[g + 1]? = some (.cells y T (0, 0))
  size : w2.heap.size = g + 2
  below : Below w.heap.size w w2

theorem Two.mk' (w : World) (T : TypeId) (x y : Array Value) : Two w ((w.alloc (.cells x T)).alloc (.cells y T)) w.heap.size T x y := by
  have h1 : Below w.heap.size w ((w.alloc (.cells x T)).alloc (.cells y T)) := ((Below.refl _ _).alloc (Nat.le_refl _) _).alloc (by simp) _
  refine ⟨?_, ?_, by simp, h1⟩
  · have := ((Below.refl (w.alloc (.cells x T)).heap.size (w.alloc (.cells x T))).alloc (Nat.le_refl _) (.cells y T)).block w.heap.size (by simp)
    rw [this]
    exact heap_alloc_new w _
  · have := heap_alloc_new (w.alloc (.cells x T)) (.cells y T)
    simpa using this

theorem Two.later {w w2 u : World} {g : Nat} {T : TypeId} {x y : Array Value} (h : Two w w2 g T x y) (hb : Below w2.heap.size w2 u) : u.heap[g]? = some (.cells x T (0, 0)) ∧ u.heap[g + 1]? = some (.cells y T (0, 0)) := by
  have := h.size
  exact ⟨(hb.block g (by omega)).trans h.at0, (hb.block (g + 1) (by omega)).trans h.at1⟩

set_option maxRecDepth 100000 in
set_option maxHeartbeats 400000 in
theorem copied_two (v : Vl) (x : Value) (B : Nat) (w : World) (hv : IsV w B v x) (hBs : B ≤ w.heap.size) :
    Calls Tryz.prog 12 #[x] w fun e w' => ∃ x', e = .returned x' ∧ IsV w' w'.heap.size v x' ∧ Below w.heap.size w w' ∧ (fewB v = true → IsQ w' (fun b => w.heap.size ≤ b ∧ b < w'.heap.size) v x') ∧ (fewB v = false → x' = x) := by
  obtain ⟨k, n, s, l, ks, al, ak, cl, ck, hvv, hx⟩ := hv.shape
  clear hvv
  obtain ⟨m, hm⟩ : ∃ m, ks.length = m := ⟨_, rfl⟩
  obtain ⟨ln, hln⟩ : ∃ ln, l.length = ln := ⟨_, rfl⟩
  rw [hm, hln] at hx
  subst hx
  have TW := Two.mk' w 42 #[.int .i64 k, .int .i64 n, .string s, .slice al ln cl, .slice ak m ck] #[.int .i64 0, .int .i64 0, .string ⟨#[]⟩, .slice none 0 0, .slice none 0 0]
  obtain ⟨w2, hw2⟩ : ∃ w2, (w.alloc (.cells #[.int .i64 k, .int .i64 n, .string s, .slice al ln cl, .slice ak m ck] 42)).alloc (.cells #[.int .i64 0, .int .i64 0, .string ⟨#[]⟩, .slice none 0 0, .slice none 0 0] 42) = w2 := ⟨_, rfl⟩
  rw [hw2] at TW
  obtain ⟨g, hg⟩ : ∃ g, w.heap.size = g := ⟨_, rfl⟩
  rw [hg] at TW
  have HT : Hid (∀ u, Below w2.heap.size w2 u → u.heap[g]? = some (.cells #[.int .i64 k, .int .i64 n, .string s, .slice al ln cl, .slice ak m ck] 42 (0, 0)) ∧ u.heap[g + 1]? = some (.cells #[.int .i64 0, .int .i64 0, .string ⟨#[]⟩, .slice none 0 0, .slice none 0 0] 42 (0, 0)) ∧ IsV u B v (.agg #[.int .i64 k, .int .i64 n, .string s, .slice al ln cl, .slice ak m ck]) ∧ B ≤ u.heap.size ∧ Below w.heap.size w u ∧ g + 2 ≤ u.heap.size) :=
    hide (fun u hu => by
      have h1 : Below w.heap.size w u := TW.below.trans (hu.mono (by have := TW.size; omega))
      have h2 := TW.size
      have h3 := hu.size
      exact ⟨(TW.later hu).1, (TW.later hu).2, hv.mono (h1.mono hBs), by omega, h1, by omega⟩)
  obtain ⟨c0, c1, c2, c3, c4⟩ := row_cell TW.at0
  have CF := hide (few_any v _ B w2 (unhide HT w2 (Below.refl _ _)).2.2.1 (unhide HT w2 (Below.refl _ _)).2.2.2.1)
  clear TW hv hm hln
  cases hF : fewB v with
  | false =>
    rw [hF] at CF
    clear hF
    go_enter Tryz.func12, Tryz.ntmps12
    go_wp2_with fail
    refine (unhide CF).mono ?_
    rintro e u3 ⟨rfl, b3⟩
    have H3 := hide b3
    clear b3 CF c0 c1 c2 c3 c4
    obtain ⟨c0, c1, c2, c3, c4⟩ := row_cell (unhide HT u3 (unhide H3)).1
    have ATX := (unhide HT u3 (unhide H3)).2.1
    obtain ⟨z0, z1, z2, z3, z4⟩ := row_cell ATX
    have fz : ∀ q, u3.frozen? ⟨g + 1, q, none⟩ = false := fun q => frozen_of_row u3 (g + 1) q _ _ ATX
    have fz0 := fz 0
    have fz1 := fz 1
    have fz2 := fz 2
    have fz3 := fz 3
    have fz4 := fz 4
    have HAT := hide ATX
    clear fz ATX
    go_wp2_with fail
    have ATX := unhide HAT
    have BW := (unhide HT u3 (unhide H3)).2.2.2.2.1
    have VV := (unhide HT u3 (unhide H3)).2.2.1
    have BU := (unhide HT u3 (unhide H3)).2.2.2.1
    have R9 := five_set u3 (g + 1) 42 _ _ _ _ _ (.int .i64 k) (.int .i64 n) (.string s) (.slice al ln cl) (.slice ak m ck) ATX
    have O9 := five_other u3 (g + 1) (x0 := .int .i64 k) (x1 := .int .i64 n) (x2 := .string s) (x3 := .slice al ln cl) (x4 := .slice ak m ck)
    have S9 : (((((u3.setCell ⟨g + 1, 0, none⟩ (.int .i64 k)).setCell ⟨g + 1, 1, none⟩ (.int .i64 n)).setCell ⟨g + 1, 2, none⟩ (.string s)).setCell ⟨g + 1, 3, none⟩ (.slice al ln cl)).setCell ⟨g + 1, 4, none⟩ (.slice ak m ck)).heap.size = u3.heap.size := by simp
    obtain ⟨w9, hw9⟩ : ∃ w9, (((((u3.setCell ⟨g + 1, 0, none⟩ (.int .i64 k)).setCell ⟨g + 1, 1, none⟩ (.int .i64 n)).setCell ⟨g + 1, 2, none⟩ (.string s)).setCell ⟨g + 1, 3, none⟩ (.slice al ln cl)).setCell ⟨g + 1, 4, none⟩ (.slice ak m ck)) = w9 := ⟨_, rfl⟩
    rw [hw9] at R9 S9 ⊢
    have B9 : Below w.heap.size w w9 := by rw [← hw9]; exact five_below BW (by omega) _ _ _ _ _
    obtain ⟨r0, r1, r2, r3, r4⟩ := row_cell R9
    refine bodyPost_ret (v := .agg #[.int .i64 k, .int .i64 n, .string s, .slice al ln cl, .slice ak m ck]) (by simp [results, Tryz.results12, go_sem, r0, r1, r2, r3, r4]) rfl ?_
    have V9 : IsV w9 w9.heap.size v (.agg #[.int .i64 k, .int .i64 n, .string s, .slice al ln cl, .slice ak m ck]) := IsV.lift (by omega) (VV.mono (by rw [← hw9]; exact five_below (Below.refl _ _) (by omega) _ _ _ _ _))
    first | exact ⟨_, rfl, V9, B9, (fun h => by cases h), fun _ => rfl⟩ | (rw [hg] at B9; exact ⟨_, rfl, V9, B9, (fun h => by cases h), fun _ => rfl⟩)
  | true =>
    rw [hF] at CF
    have hcn : cnt v ≤ 5000 := by unfold fewB at hF; exact of_decide_eq_true hF
    have CD := fun u hu => hide (deep_any (dep v) v _ B u (Nat.le_refl _) hcn (unhide HT u hu).2.2.1 (unhide HT u hu).2.2.2.1)
    clear hF hcn
    go_enter Tryz.func12, Tryz.ntmps12
    go_wp2_with fail
    refine (unhide CF).mono ?_
    rintro e u3 ⟨rfl, b3⟩
    have H3 := hide b3
    clear b3 CF c0 c1 c2 c3 c4
    obtain ⟨c0, c1, c2, c3, c4⟩ := row_cell (unhide HT u3 (unhide H3)).1
    go_wp2_with fail
    refine (unhide (CD u3 (unhide H3))).mono ?_
    rintro e u4 ⟨x4, rfl, p4, b4⟩
    obtain ⟨k4, n4, s4, l4, ks4, al4, ak4, cl4, ck4, hv4, rfl⟩ := p4.shape
    clear hv4
    obtain ⟨lc, hlc⟩ : ∃ lc, l4.length = lc := ⟨_, rfl⟩
    obtain ⟨mc, hmc⟩ : ∃ mc, ks4.length = mc := ⟨_, rfl⟩
    rw [hlc, hmc] at p4 ⊢
    have X4 := (unhide H3).trans (b4.mono (unhide H3).size)
    have H4 := hide (And.intro X4 (And.intro p4 b4.size))
    have ATX := (unhide HT u4 X4).2.1
    obtain ⟨z0, z1, z2, z3, z4⟩ := row_cell ATX
    have fz : ∀ q, u4.frozen? ⟨g + 1, q, none⟩ = false := fun q => frozen_of_row u4 (g + 1) q _ _ ATX
    have fz0 := fz 0
    have fz1 := fz 1
    have fz2 := fz 2
    have fz3 := fz 3
    have fz4 := fz 4
    have HAT := hide ATX
    clear fz ATX p4 b4 X4 CD hlc hmc c0 c1 c2 c3 c4
    go_wp2_with fail
    have ATX := unhide HAT
    have BW := (unhide HT u4 (unhide H4).1).2.2.2.2.1
    have g3 := (unhide HT u3 (unhide H3)).2.2.2.2.2
    have R9 := five_set u4 (g + 1) 42 _ _ _ _ _ (.int .i64 k4) (.int .i64 n4) (.string s4) (.slice al4 lc cl4) (.slice ak4 mc ck4) ATX
    have O9 := five_other u4 (g + 1) (x0 := .int .i64 k4) (x1 := .int .i64 n4) (x2 := .string s4) (x3 := .slice al4 lc cl4) (x4 := .slice ak4 mc ck4)
    have S9 : (((((u4.setCell ⟨g + 1, 0, none⟩ (.int .i64 k4)).setCell ⟨g + 1, 1, none⟩ (.int .i64 n4)).setCell ⟨g + 1, 2, none⟩ (.string s4)).setCell ⟨g + 1, 3, none⟩ (.slice al4 lc cl4)).setCell ⟨g + 1, 4, none⟩ (.slice ak4 mc ck4)).heap.size = u4.heap.size := by simp
    obtain ⟨w9, hw9⟩ : ∃ w9, (((((u4.setCell ⟨g + 1, 0, none⟩ (.int .i64 k4)).setCell ⟨g + 1, 1, none⟩ (.int .i64 n4)).setCell ⟨g + 1, 2, none⟩ (.string s4)).setCell ⟨g + 1, 3, none⟩ (.slice al4 lc cl4)).setCell ⟨g + 1, 4, none⟩ (.slice ak4 mc ck4)) = w9 := ⟨_, rfl⟩
    rw [hw9] at R9 S9 ⊢
    have B9 : Below w.heap.size w w9 := by rw [← hw9]; exact five_below BW (by omega) _ _ _ _ _
    obtain ⟨r0, r1, r2, r3, r4⟩ := row_cell R9
    refine bodyPost_ret (v := .agg #[.int .i64 k4, .int .i64 n4, .string s4, .slice al4 lc cl4, .slice ak4 mc ck4]) (by simp [results, Tryz.results12, go_sem, r0, r1, r2, r3, r4]) rfl ?_
    have V9 : IsV w9 w9.heap.size v (.agg #[.int .i64 k4, .int .i64 n4, .string s4, .slice al4 lc cl4, .slice ak4 mc ck4]) := IsQ.isV (fun q hq => by have := hq.2; omega) ((unhide H4).2.1.move (fun q hq => by rw [← hw9]; exact O9 q (by have := hq.1; omega)))
    have Q9 : IsQ w9 (fun b => w.heap.size ≤ b ∧ b < w9.heap.size) v (.agg #[.int .i64 k4, .int .i64 n4, .string s4, .slice al4 lc cl4, .slice ak4 mc ck4]) := ((unhide H4).2.1.move (fun q hq => by rw [← hw9]; exact O9 q (by have := hq.1; omega))).weak (fun q hq => ⟨by have := hq.1; omega, by have := hq.2; omega⟩)
    first | exact ⟨_, rfl, V9, B9, (fun _ => Q9), fun h => by cases h⟩ | (rw [hg] at B9 Q9; exact ⟨_, rfl, V9, B9, (fun _ => Q9), fun h => by cases h⟩)

end Go.Proofs.YtcknoeepdjhnoaaGreatDoor

namespace Go.Proofs.YtcknoeepdjhnoaaGreatDoor
open Go.RowKit

/-- a row of the table: name, sort of operand, takes, gives, base, rate -/
abbrev Inf := ByteArray × Int × Int × Int × Int × Int

def infV (x : Inf) : List Value := [.string x.1, .int .i64 x.2.1, .int .i64 x.2.2.1, .int .i64 x.2.2.2.1, .int .i64 x.2.2.2.2.1, .int .i64 x.2.2.2.2.2]

def infOf : DataW Unit → Inf
  | .agg [.lit (.string n), .lit (.int _ a), .lit (.int _ b), .lit (.int _ c), .lit (.int _ d), .lit (.int _ e)] => (⟨n.toArray⟩, a, b, c, d, e)
  | _ => (⟨#[]⟩, 0, 0, 0, 0, 0)

/-- the rows, by the operations' numbers -/
def OPS : List Inf := match (Rows.laid_scruple_code_operations : DataW Unit) with
  | .agg ps => ps.map infOf
  | _ => []

theorem OPS_len : OPS.length = 42 := by kernel_rfl

def blank : Inf := (⟨#[]⟩, 0, 0, 0, 0, 0)

/-- what Info answers -/
def infoA (n : Int) : Inf × Bool := if 1 ≤ n ∧ n ≤ 41 then (OPS.getD n.toNat blank, true) else (blank, false)

/-- the table in memory -/
structure Tab (w : World) : Prop where
  big : 1 < w.heap.size
  cell : ∀ k x, OPS[k]? = some x → ∀ j v, (infV x)[j]? = some v → w.cell? ⟨1, k * 6 + j, none⟩ = some v

theorem Tab.later {B : Nat} {w w' : World} (h : Tab w) (hb : Below B w w') (hB : 1 < B) (hs : w.heap.size ≤ w'.heap.size) : Tab w' := by
  refine ⟨Nat.lt_of_lt_of_le h.big hs, fun k x hx j v hv => ?_⟩
  have e : w'.cell? ⟨1, k * 6 + j, none⟩ = w.cell? ⟨1, k * 6 + j, none⟩ := World.cell?_of_block (hb.block 1 hB)
  rw [e]
  exact h.cell k x hx j v hv

theorem getD_ops (k : Nat) (hk : k < 42) : OPS[k]? = some (OPS.getD k blank) := by
  have := OPS_len
  rw [List.getD_eq_getElem?_getD, List.getElem?_eq_getElem (by omega)]
  rfl

/-- two results, the first of which lies in memory -/
theorem ret_ct {P : Program} {fn : Func} {p u : Tmp} {T : TypeId} (h : fn.results = #[.cell p T, .tmp u]) (tmps : Array Value) (w : World) (g : Nat) (c : Array Value) (d : TypeDesc) (t : TypeId)
    (hp : tmps.getD p undef = .pointer (some ⟨g, 0, none⟩)) (hb : w.heap[g]? = some (.cells c t (0, 0))) (hu : P.underlying T = some d) (hd : (match d with | .struct _ | .array _ _ => true | _ => false) = true) (hi : (P.info? T).map (·.size) = some c.size) :
    (results fn tmps).run P w = .ok (.tuple #[.agg c, tmps.getD u undef]) w := by
  rw [results_cell_tmp h, hp]
  have hl := run_loadVar_row (P := P) w g t T c (0, 0) _ hb hu hd hi
  simp [asAddr, Result.andThen, hl]

/-- three results, the first of which lies in memory -/
theorem ret_ctt {P : Program} {fn : Func} {p u v : Tmp} {T : TypeId} (h : fn.results = #[.cell p T, .tmp u, .tmp v]) (tmps : Array Value) (w : World) (g : Nat) (c : Array Value) (d : TypeDesc) (t : TypeId)
    (hp : tmps.getD p undef = .pointer (some ⟨g, 0, none⟩)) (hb : w.heap[g]? = some (.cells c t (0, 0))) (hu : P.underlying T = some d) (hd : (match d with | .struct _ | .array _ _ => true | _ => false) = true) (hi : (P.info? T).map (·.size) = some c.size) :
    (results fn tmps).run P w = .ok (.tuple #[.agg c, tmps.getD u undef, tmps.getD v undef]) w := by
  have hl := run_loadVar_row (P := P) w g t T c (0, 0) _ hb hu hd hi
  have hp' : tmps[p]?.getD undef = .pointer (some ⟨g, 0, none⟩) := by simpa using hp
  simp [results, h, hp', asAddr, Result.andThen, hl]

theorem size_inf : (Tryz.prog.info? 97).map (·.size) = some 6 := by kernel_rfl

set_option maxRecDepth 100000 in
theorem info_any (n : Int) (w : World) (h : Tab w) :
    Calls Tryz.prog 64 #[.int .i64 n] w fun e w' => e = .returned (.tuple #[.agg (infV (infoA n).1).toArray, .bool (infoA n).2]) ∧ Below w.heap.size w w' := by
  by_cases hn : 1 ≤ n ∧ n ≤ 41
  · obtain ⟨k, rfl⟩ : ∃ k : Nat, n = (k : Int) := ⟨n.toNat, by omega⟩
    have hk := getD_ops k (by omega)
    have hb : 1 < w.heap.size := h.big
    have e1 : (infoA (k : Int)) = (OPS.getD k blank, true) := by simp [infoA, hn]
    rw [e1]
    generalize OPS.getD k blank = x at *
    obtain ⟨s, a, b, c, d, f⟩ := x
    have c0 : w.cell? ⟨1, k * 6, none⟩ = some (.string s) := h.cell k _ hk 0 _ rfl
    have c1 : w.cell? ⟨1, k * 6 + 1, none⟩ = some (.int .i64 a) := h.cell k _ hk 1 _ rfl
    have c2 : w.cell? ⟨1, k * 6 + 2, none⟩ = some (.int .i64 b) := h.cell k _ hk 2 _ rfl
    have c3 : w.cell? ⟨1, k * 6 + 3, none⟩ = some (.int .i64 c) := h.cell k _ hk 3 _ rfl
    have c4 : w.cell? ⟨1, k * 6 + 4, none⟩ = some (.int .i64 d) := h.cell k _ hk 4 _ rfl
    have c5 : w.cell? ⟨1, k * 6 + 5, none⟩ = some (.int .i64 f) := h.cell k _ hk 5 _ rfl
    obtain ⟨n1, n2⟩ := hn
    have n3 : ¬ (k : Int) < 1 := by omega
    have n4 : ¬ 42 ≤ (k : Int) := by omega
    have n5 : (k : Int) < 42 := by omega
    clear hk h e1
    go_enter Tryz.func64, Tryz.ntmps64
    go_wp2_with fail
    exact bodyPost_ret (ret_ct (p := 2) (u := 3) (T := 97) rfl _ _ w.heap.size _ _ _ rfl (heap_alloc_new w _) Tryz.underlying97 rfl size_inf) rfl ⟨rfl, (Below.refl _ _).alloc (Nat.le_refl _) _⟩
  · have e1 : infoA n = (blank, false) := by simp [infoA, hn]
    rw [e1]
    by_cases n1 : n < 1
    · go_enter Tryz.func64, Tryz.ntmps64
      go_wp2_with fail
      exact bodyPost_ret (ret_ct (p := 2) (u := 3) (T := 97) rfl _ _ w.heap.size _ _ _ rfl (heap_alloc_new w _) Tryz.underlying97 rfl size_inf) rfl ⟨rfl, (Below.refl _ _).alloc (Nat.le_refl _) _⟩
    · have n2 : 42 ≤ n := by omega
      go_enter Tryz.func64, Tryz.ntmps64
      go_wp2_with fail
      exact bodyPost_ret (ret_ct (p := 2) (u := 3) (T := 97) rfl _ _ w.heap.size _ _ _ rfl (heap_alloc_new w _) Tryz.underlying97 rfl size_inf) rfl ⟨rfl, (Below.refl _ _).alloc (Nat.le_refl _) _⟩

end Go.Proofs.YtcknoeepdjhnoaaGreatDoor

namespace Go.Proofs.YtcknoeepdjhnoaaGreatDoor
open Go.RowKit

theorem below_drewN {B : Nat} {a w : World} (h : Below B a w) (q : Nat) : Below B a (w.drewN q) := ⟨h.os, h.tape, h.output, h.size, h.block⟩

def opdOf : DataW Unit → Int × Int
  | .agg [.lit (.int _ a), .lit (.int _ b)] => (a, b)
  | _ => (0, 0)

/-- of each sort of operand, in how many bytes it stands and how great it may be -/
def OPD : List (Int × Int) := match (Rows.laid_scruple_code_operands : DataW Unit) with
  | .agg ps => ps.map opdOf
  | _ => []

theorem OPD_len : OPD.length = 6 := by kernel_rfl
theorem OPD_is : OPD = [(0, 0), (1, 99), (1, 31), (2, 3999), (1, 23), (1, 40)] := by kernel_rfl

/-- both tables in memory -/
structure Tab2 (w : World) : Prop where
  tab : Tab w
  big : 1 < w.heap.size
  cell : ∀ k p, OPD[k]? = some p → w.cell? ⟨0, k * 2, none⟩ = some (.int .i64 p.1) ∧ w.cell? ⟨0, k * 2 + 1, none⟩ = some (.int .i64 p.2)

theorem Tab2.later {B : Nat} {w w' : World} (h : Tab2 w) (hb : Below B w w') (hB : 1 < B) (hs : w.heap.size ≤ w'.heap.size) : Tab2 w' := by
  refine ⟨h.tab.later hb (by omega) hs, Nat.lt_of_lt_of_le h.big hs, fun k x hx => ?_⟩
  have e1 : w'.cell? ⟨0, k * 2, none⟩ = w.cell? ⟨0, k * 2, none⟩ := World.cell?_of_block (hb.block 0 (by omega))
  have e2 : w'.cell? ⟨0, k * 2 + 1, none⟩ = w.cell? ⟨0, k * 2 + 1, none⟩ := World.cell?_of_block (hb.block 0 (by omega))
  rw [e1, e2]
  exact h.cell k x hx

theorem Tab2.below {w w' : World} (h : Tab2 w) (hb : Below w.heap.size w w') : Tab2 w' := h.later hb h.big hb.size

/-- the sort of an operation's operand -/
def srt (op : Int) : Nat := (infoA op).1.2.1.toNat
def siz (k : Nat) : Nat := (OPD.getD k (0, 0)).1.toNat
def mst (k : Nat) : Int := (OPD.getD k (0, 0)).2

theorem ops_sort : ∀ i : Fin 41, 0 ≤ (OPS.getD (i.val + 1) blank).2.1 ∧ (OPS.getD (i.val + 1) blank).2.1 ≤ 5 := by decide +kernel

theorem infoA_in (op : Int) (h : 1 ≤ op ∧ op ≤ 41) : infoA op = (OPS.getD op.toNat blank, true) := by
  unfold infoA
  rw [if_pos h]

theorem srt_is (op : Int) (h : 1 ≤ op ∧ op ≤ 41) : (OPS.getD op.toNat blank).2.1 = (srt op : Int) ∧ srt op ≤ 5 := by
  have := ops_sort ⟨op.toNat - 1, by omega⟩
  simp only [show op.toNat - 1 + 1 = op.toNat by omega] at this
  unfold srt
  rw [infoA_in op h]
  simp only []
  omega

theorem opd_at (k : Nat) (h : k ≤ 5) : OPD[k]? = some ((siz k : Int), mst k) ∧ siz k ≤ 2 ∧ 0 ≤ mst k ∧ mst k ≤ 3999 ∧ (siz k = 0 → mst k = 0) ∧ (siz k = 1 → mst k ≤ 255) := by
  unfold siz mst
  rw [OPD_is]
  match k, h with
  | 0, _ => decide
  | 1, _ => decide
  | 2, _ => decide
  | 3, _ => decide
  | 4, _ => decide
  | 5, _ => decide

/-- what is wrong with an instruction -/
def faultI (op a : Int) : Int := if 1 ≤ op ∧ op ≤ 41 then (if 0 ≤ a ∧ a ≤ mst (srt op) then 0 else 81) else 80

theorem fault_ok {op a : Int} (h : faultI op a = 0) : (1 ≤ op ∧ op ≤ 41) ∧ 0 ≤ a ∧ a ≤ mst (srt op) := by
  unfold faultI at h
  split at h
  · rename_i h1
    split at h
    · rename_i h2; exact ⟨h1, h2⟩
    · omega
  · omega

set_option maxRecDepth 100000 in
set_option maxHeartbeats 800000 in
theorem fault_any (op a : Int) (w : World) (h : Tab2 w) :
    Calls Tryz.prog 89 #[.agg #[.int .i64 op, .int .i64 a]] w fun e w' => e = .returned (.int .i64 (faultI op a)) ∧ Below w.heap.size w w' := by
  obtain ⟨w1, hw1⟩ : ∃ w1, w.alloc (.cells #[.int .i64 op, .int .i64 a] 75) = w1 := ⟨_, rfl⟩
  have B1 : Below w.heap.size w w1 := by rw [← hw1]; exact (Below.refl _ _).alloc (Nat.le_refl _) _
  have A1 : w1.heap[w.heap.size]? = some (.cells #[.int .i64 op, .int .i64 a] 75 (0, 0)) := by rw [← hw1]; exact heap_alloc_new _ _
  have Z1 : w1.heap.size = w.heap.size + 1 := by rw [← hw1]; simp
  have C1 := hide (info_any op w1 (h.below B1).tab)
  have c0 : w1.cell? ⟨w.heap.size, 0, none⟩ = some (.int .i64 op) := by rw [cell_of_row w1 _ 0 _ _ (0, 0) A1]; rfl
  have hbig := h.big
  have HT := hide h
  have H1 := hide (And.intro B1 (And.intro A1 Z1))
  obtain ⟨F, hF⟩ : ∃ F, faultI op a = F := ⟨_, rfl⟩
  rw [hF]
  clear h B1 A1 Z1
  by_cases hin : 1 ≤ op ∧ op ≤ 41
  · have e1 := infoA_in op hin
    have e2 := srt_is op hin
    have e3 := opd_at (srt op) e2.2
    rw [e1] at C1
    generalize OPS.getD op.toNat blank = x at *
    obtain ⟨xn, xa, xb, xc, xd, xf⟩ := x
    simp only [infV] at C1 e2
    obtain ⟨k, hk⟩ : ∃ k, srt op = k := ⟨_, rfl⟩
    rw [hk] at e2 e3
    obtain ⟨rfl, k5⟩ := e2
    obtain ⟨m, hm⟩ : ∃ m, mst k = m := ⟨_, rfl⟩
    rw [hm] at e3
    have HF : Hid ((0 ≤ a ∧ a ≤ m → F = 0) ∧ (¬ (0 ≤ a ∧ a ≤ m) → F = 81)) := hide (by
      rw [← hF]
      unfold faultI
      rw [if_pos hin, hk, hm]
      exact ⟨fun h => if_pos h, fun h => if_neg h⟩)
    have HO := hide e3.1
    clear e1 e3 hF hk hm hin
    go_enter Tryz.func89, Tryz.ntmps89
    go_wp2_with fail
    refine (unhide C1).mono ?_
    rintro e w2 ⟨rfl, B2⟩
    have H2 := hide B2
    clear B2 C1
    go_upto_region 4 with fail
    obtain ⟨w3, hw3⟩ : ∃ w3, w3 = w2.alloc (.cells #[.string xn, .int .i64 (k : Int), .int .i64 xb, .int .i64 xc, .int .i64 xd, .int .i64 xf] 97) := ⟨_, rfl⟩
    rw [← hw3]
    have A3 : w3.heap[w2.heap.size]? = some (.cells #[.string xn, .int .i64 (k : Int), .int .i64 xb, .int .i64 xc, .int .i64 xd, .int .i64 xf] 97 (0, 0)) := by rw [hw3]; exact heap_alloc_new w2 _
    have B3 : Below w1.heap.size w1 w3 := by rw [hw3]; exact (unhide H2).alloc (unhide H2).size _
    have X3 : Hid (Below w.heap.size w w3) := hide ((unhide H1).1.trans (B3.mono (unhide H1).1.size))
    have d1 : w3.cell? ⟨w2.heap.size, 1, none⟩ = some (.int .i64 (k : Int)) := by rw [cell_of_row w3 _ 1 _ _ (0, 0) A3]; rfl
    have A3' := (B3.block w.heap.size (by have := (unhide H1).2.2; omega)).trans (unhide H1).2.1
    have c1 : w3.cell? ⟨w.heap.size, 1, none⟩ = some (.int .i64 a) := by rw [cell_of_row w3 _ 1 _ _ (0, 0) A3']; rfl
    have t1 : w3.cell? ⟨0, k * 2 + 1, none⟩ = some (.int .i64 m) := (((unhide HT).below (unhide X3)).cell k _ (unhide HO)).2
    have k6 : (k : Int) < 6 := by omega
    clear hw3 A3 A3' B3 c0 hw1
    by_cases h0 : a < 0
    · have HE : Hid (F = 81) := hide ((unhide HF).2 (by omega))
      clear HF
      go_quiet (fail)
      go_wp2_with fail
      go_ret
      exact ⟨by rw [unhide HE]; rfl, below_drewN (unhide X3) _⟩
    · by_cases h1 : m < a
      · have HE : Hid (F = 81) := hide ((unhide HF).2 (by omega))
        clear HF
        go_quiet (fail)
        go_wp2_with fail
        go_ret
        exact ⟨by rw [unhide HE]; rfl, below_drewN (unhide X3) _⟩
      · have HE : Hid (F = 0) := hide ((unhide HF).1 (by omega))
        clear HF
        go_quiet (fail)
        go_wp2_with fail
        go_ret
        exact ⟨by rw [unhide HE]; rfl, below_drewN (unhide X3) _⟩
  · have e1 : infoA op = (blank, false) := by unfold infoA; rw [if_neg hin]
    rw [e1] at C1
    simp only [infV, blank] at C1
    have HE : Hid (F = 80) := hide (by rw [← hF]; unfold faultI; rw [if_neg hin])
    clear e1 hF hin
    go_enter Tryz.func89, Tryz.ntmps89
    go_wp2_with fail
    refine (unhide C1).mono ?_
    rintro e w2 ⟨rfl, B2⟩
    have H2 := hide B2
    clear B2 C1
    go_wp2_with fail
    go_ret
    refine ⟨by rw [unhide HE]; rfl, (unhide H1).1.trans (((unhide H2).mono (unhide H1).1.size).alloc ?_ _)⟩
    exact Nat.le_trans (unhide H1).1.size (unhide H2).size
end Go.Proofs.YtcknoeepdjhnoaaGreatDoor

namespace Go.Proofs.YtcknoeepdjhnoaaGreatDoor
open Go.RowKit

theorem ins_cells {w : World} {g : Nat} {op a : Int} (h : w.heap[g]? = some (.cells #[.int .i64 op, .int .i64 a] 75 (0, 0))) : w.cell? ⟨g, 0, none⟩ = some (.int .i64 op) ∧ w.cell? ⟨g, 1, none⟩ = some (.int .i64 a) :=
  ⟨by rw [cell_of_row w _ 0 _ _ (0, 0) h]; rfl, by rw [cell_of_row w _ 1 _ _ (0, 0) h]; rfl⟩
end Go.Proofs.YtcknoeepdjhnoaaGreatDoor

namespace Go.Proofs.YtcknoeepdjhnoaaGreatDoor
open Go.RowKit

/-- a whole array into the block that holds one of its size -/
theorem wpList_store_arr {P : Program} {w : World} {ops : Array Oper} {rest : List Oper} {o : Oper} {a : Act} {Q : Exit → Act → World → Prop} (hgd : o.guard = none) (T : TypeId) (x y : Operand) (ho : o.op = .store T x y)
    (g : Nat) (c c' : Array Value) (hx : a.eval x = .pointer (some ⟨g, 0, none⟩)) (hy : a.eval y = .agg c') (hb : w.heap[g]? = some (.cells c T (0, 0))) (hs : c.size = c'.size) (hi : (P.info? T).map (·.size) = some c'.size) (h1 : c'.all (·.oneCell') = true)
    (h : wpList P ops Q rest (a.put o.dst undef) (w.setRow g c')) : wpList P ops Q (o :: rest) a w := by
  refine wpList_plain hgd fun K hK => ?_
  have hv := run_storeVar_row (P := P) w g T T c c' hb hi hs h1
  have hrun : (Instr.storeAt T (.pointer (some ⟨g, 0, none⟩)) (.agg c')).run P w = .ok () (w.setRow g c') := by
    simp only [Instr.storeAt, Instr.sureAddr, Sem.run_bind, Sem.run_pure, Result.andThen]
    exact hv
  unfold Oper.wp
  simp [execOp, ho, hx, hy, hrun, Result.andThen]
  exact hK _ _ h

end Go.Proofs.YtcknoeepdjhnoaaGreatDoor

namespace Go.Proofs.YtcknoeepdjhnoaaGreatDoor
open Go.RowKit

/-- a block that was written over -/
structure Put (w w' : World) (g : Nat) (c : Array Value) (T : TypeId) : Prop where
  at' : w'.heap[g]? = some (.cells c T (0, 0))
  size : w'.heap.size = w.heap.size
  other : ∀ k, k ≠ g → w'.heap[k]? = w.heap[k]?
  below : ∀ (B : Nat) (a : World), Below B a w → B ≤ g → Below B a w'

theorem Put.mk' {w : World} {g : Nat} {c c' : Array Value} {T : TypeId} (hb : w.heap[g]? = some (.cells c T (0, 0))) : Put w (w.setRow g c') g c' T :=
  ⟨setRow_heap w g c c' T _ hb, by simp, fun k hk => setRow_other w g k c' hk, fun _ _ h hB => below_setRow h hB c'⟩

theorem wpList_put_arr {P : Program} {w : World} {ops : Array Oper} {rest : List Oper} {o : Oper} {a : Act} {Q : Exit → Act → World → Prop} (hgd : o.guard = none) (T : TypeId) (x y : Operand) (ho : o.op = .store T x y)
    (g : Nat) (c c' : Array Value) (hx : a.eval x = .pointer (some ⟨g, 0, none⟩)) (hy : a.eval y = .agg c') (hb : w.heap[g]? = some (.cells c T (0, 0))) (hs : c.size = c'.size) (hi : (P.info? T).map (·.size) = some c'.size) (h1 : c'.all (·.oneCell') = true)
    (h : ∀ w', Hid (Put w w' g c' T) → wpList P ops Q rest (a.put o.dst undef) w') : wpList P ops Q (o :: rest) a w :=
  wpList_store_arr hgd T x y ho g c c' hx hy hb hs hi h1 (h _ (Put.mk' hb))

end Go.Proofs.YtcknoeepdjhnoaaGreatDoor

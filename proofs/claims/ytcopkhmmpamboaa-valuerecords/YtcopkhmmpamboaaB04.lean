/-
  The walks of measure, Right, Weight, Depth: a value's weight and depth, 0 of what is not right; no conditions but the form's own reach.
  Entries in memory; no conditions.
  When two values are the same, field by field; no conditions.
  The walks of many and few: how many parts a value has; no conditions but the form's own reach.
  A step of a region that draws: make; no conditions.
-/
import Derived.Test.YtcopkhmmpamboaaB03
import Derived.Laws.ResultCell
import Derived.Laws.EntriesVeiled
import Derived.WalkSpells
import Derived.WalkSmall
import Derived.Deep.AppendLies
import Derived.OwnWalk
namespace Go.Proofs.Ytcopkhmmpamboaa
open Go.RowKit

/-- is it right? -/
def rightB (v : Vl) : Bool := okB 8 v && decide (wt v ≤ 2048)
def wt0 (v : Vl) : Nat := if rightB v then wt v else 0
def dep0 (v : Vl) : Nat := if rightB v then dep v else 0

theorem dep_pos (v : Vl) : 1 ≤ dep v := by cases v; simp [dep]

theorem ret_cells {fn : Func} {p q : Tmp} (h : fn.results = #[.cell p 3, .cell q 3]) (tmps : Array Value) (w : World) (gp gq : Nat) (x y : Int) (hp : tmps.getD p undef = .pointer (some ⟨gp, 0, none⟩)) (hq : tmps.getD q undef = .pointer (some ⟨gq, 0, none⟩))
    (hx : w.cell? ⟨gp, 0, none⟩ = some (.int .i64 x)) (hy : w.cell? ⟨gq, 0, none⟩ = some (.int .i64 y)) : (results fn tmps).run Try.prog w = .ok (.tuple #[.int .i64 x, .int .i64 y]) w := by
  have hp' : tmps[p]?.getD undef = .pointer (some ⟨gp, 0, none⟩) := by simpa using hp
  have hq' : tmps[q]?.getD undef = .pointer (some ⟨gq, 0, none⟩) := by simpa using hq
  simp only [results, h]
  go_simp

set_option maxRecDepth 100000 in
set_option maxHeartbeats 400000 in
theorem measure_any (v : Vl) (x : Value) (B : Nat) (w : World) (hv : IsV w B v x) (hBs : B ≤ w.heap.size) :
    Calls Try.prog 40 #[x] w fun e w' => e = .returned (.tuple #[.int .i64 (wt0 v : Int), .int .i64 (dep0 v : Int)]) ∧ Below w.heap.size w w' := by
  obtain ⟨k', n', s', l', ks', al', ak', cl', ck', hy', hx⟩ := hv.shape
  obtain ⟨ll, hll⟩ : ∃ ll, l'.length = ll := ⟨_, rfl⟩
  obtain ⟨m, hm⟩ : ∃ m, ks'.length = m := ⟨_, rfl⟩
  rw [hll, hm] at hx
  subst hx
  obtain ⟨w1, hw1⟩ : ∃ w1, w.alloc (.cells #[.int .i64 k', .int .i64 n', .string s', .slice al' ll cl', .slice ak' m ck'] 27) = w1 := ⟨_, rfl⟩
  have BX := Box.mk' w (.int .i64 k') (.int .i64 n') (.string s') (.slice al' ll cl') (.slice ak' m ck')
  rw [hw1] at BX
  obtain ⟨g, hg⟩ : ∃ g, w.heap.size = g := ⟨_, rfl⟩
  have z1 := BX.size
  rw [hg] at z1
  obtain ⟨w2, hw2⟩ : ∃ w2, w1.alloc (.cells #[.int .i64 0] 3) = w2 := ⟨_, rfl⟩
  obtain ⟨w3, hw3⟩ : ∃ w3, w2.alloc (.cells #[.int .i64 0] 3) = w3 := ⟨_, rfl⟩
  obtain ⟨w4, hw4⟩ : ∃ w4, w3.alloc (.cells #[.nilFunc] 79) = w4 := ⟨_, rfl⟩
  have z2 : w2.heap.size = g + 2 := by rw [← hw2]; simp [z1]
  have z3 : w3.heap.size = g + 3 := by rw [← hw3]; simp [z2]
  have z4 : w4.heap.size = g + 4 := by rw [← hw4]; simp [z3]
  have b12 : Below w1.heap.size w1 w2 := by rw [← hw2]; exact (Below.refl _ _).alloc (Nat.le_refl _) _
  have b23 : Below w2.heap.size w2 w3 := by rw [← hw3]; exact (Below.refl _ _).alloc (Nat.le_refl _) _
  have b34 : Below w3.heap.size w3 w4 := by rw [← hw4]; exact (Below.refl _ _).alloc (Nat.le_refl _) _
  have r2 : w2.heap[g + 1]? = some (.cells #[.int .i64 0] 3 (0, 0)) := by rw [← hw2, ← z1]; exact heap_alloc_new w1 _
  have r3 : w3.heap[g + 2]? = some (.cells #[.int .i64 0] 3 (0, 0)) := by rw [← hw3, ← z2]; exact heap_alloc_new w2 _
  have r4 : w4.heap[g + 3]? = some (.cells #[.nilFunc] 79 (0, 0)) := by rw [← hw4, ← z3]; exact heap_alloc_new w3 _
  obtain ⟨w5, hw5⟩ : ∃ w5, w4.setCell ⟨g + 3, 0, none⟩ (.func (.func 54) #[] #[.pointer (some ⟨g + 2, 0, none⟩), .pointer (some ⟨g + 1, 0, none⟩), .pointer (some ⟨g + 3, 0, none⟩)]) = w5 := ⟨_, rfl⟩
  have z5 : w5.heap.size = g + 4 := by rw [← hw5]; simp [z4]
  have S5 : St w5 (g + 2) (g + 1) (g + 3) ((0 : Nat) : Int) ((0 : Nat) : Int) := by
    refine ⟨?_, ?_, ?_⟩
    · rw [← hw5, heap_setCell_other _ _ _ _ (by simp), b34.block _ (by omega)]; exact r3
    · rw [← hw5, heap_setCell_other _ _ _ _ (by simp), b34.block _ (by omega), b23.block _ (by omega)]; exact r2
    · rw [← hw5, heap_setCell_same w4 (g + 3) 0 _ _ _ r4]; rfl
  have P5 : Pl w5 g (g + 2) (g + 1) (g + 3) := ⟨by omega, by omega, by omega, by omega, by omega, by omega, by omega, by omega, by omega⟩
  have X5 : Below g w w5 := by
    have h := ((BX.below.trans (b12.mono (by omega))).trans (b23.mono (by omega))).trans (b34.mono (by omega))
    rw [hg] at h
    rw [← hw5]
    exact h.setCell (p := ⟨g + 3, 0, none⟩) (by show g ≤ g + 3; omega) _
  have R5 : w5.heap[g]? = some (.cells #[.int .i64 k', .int .i64 n', .string s', .slice al' ll cl', .slice ak' m ck'] 27 (0, 0)) := by
    rw [← hw5, heap_setCell_other _ _ _ _ (by simp), b34.block _ (by omega), b23.block _ (by omega), b12.block _ (by omega), ← hg]
    exact BX.row
  have q4 : w4.cell? ⟨g + 3, 0, none⟩ = some .nilFunc := (one_cell r4).1
  have f4 : w4.frozen? ⟨g + 3, 0, none⟩ = false := (one_cell r4).2
  have qr : w5.cell? ⟨g + 3, 0, none⟩ = some (.func (.func 54) #[] #[.pointer (some ⟨g + 2, 0, none⟩), .pointer (some ⟨g + 1, 0, none⟩), .pointer (some ⟨g + 3, 0, none⟩)]) := (one_cell S5.fn).1
  obtain ⟨c0, c1, c2, c3, c4⟩ := row_cell R5
  have CI := hide (right_any 8 v _ 1 0 0 g (g + 2) (g + 1) (g + 3) w5 (by omega) (by omega) ((hv.lift (by omega)).mono X5) (by omega) P5 S5 (by omega))
  have H := hide (And.intro P5 (And.intro X5 hy'))
  clear BX b12 b23 b34 r2 r3 r4 S5 P5 X5 R5 hv hy'
  rw [hg]
  simp only [Nat.zero_add] at CI
  obtain ⟨R, hR⟩ : ∃ R, (okB 8 v && decide (wt v ≤ 2048)) = R := ⟨_, rfl⟩
  rw [hR] at CI
  have HR := hide hR
  clear hR
  go_enter Try.func40, Try.ntmps40
  go_wp2_with fail
  refine (unhide CI).mono ?_
  rintro e w6 ⟨d', s', rfl, s6, b6, hok⟩
  have S6 := hide s6
  have X6 : Hid (Below g w w6) := hide ((unhide H).2.1.trans b6)
  have P6 : Hid (Pl w6 g (g + 2) (g + 1) (g + 3)) := hide ((unhide H).1.later b6.size)
  have HO := hide hok
  obtain ⟨qd, fd⟩ := one_cell s6.dep
  obtain ⟨qw, fw⟩ := one_cell s6.wgt
  clear s6 b6 hok CI c0 c1 c2 c3 c4 qr q4 f4 hw1 hw2 hw3 hw4 hw5
  cases R with
  | false =>
    have S7 := hide (((unhide S6).setW (unhide P6) 0).setD ((unhide P6).later (by simp)) 0)
    have X7 := hide (((unhide X6).setCell (p := ⟨g + 1, 0, none⟩) (by show g ≤ g + 1; omega) (.int .i64 0)).setCell (p := ⟨g + 2, 0, none⟩) (by show g ≤ g + 2; omega) (.int .i64 0))
    have hr : rightB v = false := unhide HR
    have HZ : Hid (wt0 v = 0 ∧ dep0 v = 0) := hide (by unfold wt0 dep0; rw [hr]; exact ⟨rfl, rfl⟩)
    clear hr
    go_wp2_with fail
    refine bodyPost_ret (ret_cells rfl _ _ (g + 1) (g + 2) 0 0 rfl rfl (one_cell (unhide S7).wgt).1 (one_cell (unhide S7).dep).1) rfl ⟨by rw [(unhide HZ).1, (unhide HZ).2]; rfl, unhide X7⟩
  | true =>
    obtain ⟨es, ed⟩ := unhide HO rfl
    subst es
    subst ed
    go_wp2_with fail
    go_region
    have hr : rightB v = true := unhide HR
    have HZ : Hid (wt0 v = wt v ∧ dep0 v = dep v) := hide (by unfold wt0 dep0; rw [hr]; exact ⟨rfl, rfl⟩)
    obtain ⟨W, hW⟩ : ∃ W : Nat, wt v = W := ⟨_, rfl⟩
    obtain ⟨D, hD⟩ : ∃ D : Nat, dep v = D := ⟨_, rfl⟩
    rw [hW, hD] at HZ
    rw [hW, hD]
    have S7 := hide (((unhide S6).setW (unhide P6) (W : Int)).setD ((unhide P6).later (by simp)) (D : Int))
    have X7 := hide ((((unhide X6).setCell (p := ⟨g + 1, 0, none⟩) (by show g ≤ g + 1; omega) (.int .i64 (W : Int))).setCell (p := ⟨g + 2, 0, none⟩) (by show g ≤ g + 2; omega) (.int .i64 (D : Int))).drew)
    clear hr HO S6
    go_wp2_with fail
    refine bodyPost_ret (ret_cells rfl _ _ (g + 1) (g + 2) (W : Int) (D : Int) rfl rfl (one_cell (unhide S7).wgt).1 (one_cell (unhide S7).dep).1) rfl ⟨by rw [(unhide HZ).1, (unhide HZ).2], unhide X7⟩
end Go.Proofs.Ytcopkhmmpamboaa

namespace Go.Proofs.Ytcopkhmmpamboaa
open Go.RowKit
set_option linter.unusedVariables false

/-- an entry: a key and its value -/
abbrev En := ByteArray × Vl

/-- how entries lie in memory, their values' lists in blocks of P -/
structure EsF (w : World) (P : Nat → Prop) (es : List En) (al : Option Addr) (cl : Nat) (V : Nat → List Value) : Prop where
  nl : al = none → es.length = 0 ∧ cl = 0
  ll : es.length ≤ cl
  bl : 96 * es.length ≤ 140737488351232
  hl : ∀ a, al = some a → ∀ i e, es[i]? = some e → P a.block ∧ ∀ j v, (Value.string e.1 :: V i)[j]? = some v → w.cell? ((a.add (i * 6)).add j) = some v
  bt : ∀ e ∈ es, e.1.size ≤ 140737488351232
  hv : ∀ i e, es[i]? = some e → (V i).length = 5 ∧ IsP w P e.2 (.agg (V i).toArray)

def IsE (w : World) (P : Nat → Prop) (es : List En) (al : Option Addr) (cl : Nat) : Prop := ∃ V, EsF w P es al cl V

theorem IsE.to {w w' : World} {P Q : Nat → Prop} (hw : ∀ b, P b → w'.heap[b]? = w.heap[b]?) (hP : ∀ b, P b → Q b) {es : List En} {al : Option Addr} {cl : Nat} (h : IsE w P es al cl) : IsE w' Q es al cl := by
  obtain ⟨V, h⟩ := h
  refine ⟨V, h.nl, h.ll, h.bl, fun a ha i e he => ⟨hP _ (h.hl a ha i e he).1, fun j v hv => ?_⟩, h.bt, fun i e he => ⟨(h.hv i e he).1, (h.hv i e he).2.to hw hP⟩⟩
  have e : w'.cell? ((a.add (i * 6)).add j) = w.cell? ((a.add (i * 6)).add j) := World.cell?_of_block (by rw [block_add, block_add]; exact hw _ (h.hl a ha i e he).1)
  rw [e]
  exact (h.hl a ha i _ he).2 j v hv

theorem IsE.weak {w : World} {P Q : Nat → Prop} (hP : ∀ b, P b → Q b) {es : List En} {al : Option Addr} {cl : Nat} (h : IsE w P es al cl) : IsE w Q es al cl := h.to (fun _ _ => rfl) hP
theorem IsE.move {w w' : World} {P : Nat → Prop} (hw : ∀ b, P b → w'.heap[b]? = w.heap[b]?) {es : List En} {al : Option Addr} {cl : Nat} (h : IsE w P es al cl) : IsE w' P es al cl := h.to hw (fun _ h => h)
theorem IsE.later {w w' : World} {B : Nat} {es : List En} {al : Option Addr} {cl : Nat} (h : IsE w (fun b => b < B) es al cl) (hb : Below B w w') : IsE w' (fun b => b < B) es al cl := h.move (fun b hl => hb.block b hl)

theorem IsE.len {w : World} {P : Nat → Prop} {es : List En} {al : Option Addr} {cl : Nat} (h : IsE w P es al cl) : es.length ≤ cl ∧ es.length ≤ 140737488351232 ∧ (al = none → es.length = 0) := by
  obtain ⟨V, h⟩ := h
  exact ⟨h.ll, by have := h.bl; omega, fun e => (h.nl e).1⟩

/-- the cells of an entry -/
theorem IsE.elem {w : World} {P : Nat → Prop} {es : List En} {al : Option Addr} {cl : Nat} (h : IsE w P es al cl) (i : Nat) (e : En) (he : es[i]? = some e) :
    ∃ (a : Addr) (x0 x1 : Int) (x2 : ByteArray) (al' ak' : Option Addr) (ll' m' cl' ck' : Nat), al = some a ∧ P a.block ∧ e.1.size ≤ 140737488351232 ∧ (∀ j v, [Value.string e.1, .int .i64 x0, .int .i64 x1, .string x2, .slice al' ll' cl', .slice ak' m' ck'][j]? = some v → w.cell? ((a.add (i * 6)).add j) = some v) ∧ IsP w P e.2 (.agg #[.int .i64 x0, .int .i64 x1, .string x2, .slice al' ll' cl', .slice ak' m' ck']) := by
  obtain ⟨V, h⟩ := h
  cases al with
  | none => have := (h.nl rfl).1; have := (List.getElem?_eq_some_iff.1 he).1; omega
  | some a =>
    obtain ⟨_, hp⟩ := h.hv i e he
    obtain ⟨k', n', s', l', ks', al', ak', cl', ck', hy', hx⟩ := hp.shape
    have hVi : V i = [.int .i64 k', .int .i64 n', .string s', .slice al' l'.length cl', .slice ak' ks'.length ck'] := by
      have h1 := Value.agg.inj hx
      have h2 := congrArg Array.toList h1
      simpa using h2
    have hc := h.hl a rfl i e he
    rw [hVi] at hc hp
    exact ⟨a, k', n', s', al', ak', l'.length, ks'.length, cl', ck', rfl, hc.1, h.bt e (List.mem_of_getElem? he), hc.2, hp⟩
end Go.Proofs.Ytcopkhmmpamboaa

namespace Go.Proofs.Ytcopkhmmpamboaa
open Go.RowKit

/-! ### Are two values the same? -/
def sameL : List Vl → List Vl → Bool
  | [], _ => true
  | _ :: _, [] => true
  | .mk k n s l q :: xs, .mk k' n' s' l' q' :: ys => (decide (k = k') && decide (n = n') && (s.toList == s'.toList) && decide (l.length = l'.length) && decide (q = q') && sameL l l') && sameL xs ys
def sameB : Vl → Vl → Bool
  | .mk k n s l ks, .mk k' n' s' l' ks' => decide (k = k') && decide (n = n') && (s.toList == s'.toList) && decide (l.length = l'.length) && decide (ks = ks') && sameL l l'
theorem sameL_nil (l : List Vl) : sameL [] l = true := by simp only [sameL]
theorem sameL_cons (x : Vl) (xs : List Vl) (y : Vl) (ys : List Vl) : sameL (x :: xs) (y :: ys) = (sameB x y && sameL xs ys) := by
  cases x
  cases y
  simp only [sameL, sameB]

theorem bytes_beq (a b : ByteArray) : (a.toList == b.toList) = true ↔ a = b := by
  rw [beq_iff_eq, ByteArray.toList_eq, ByteArray.toList_eq]
  exact ⟨Go.WideShapes.bytes_inj, fun h => by rw [h]⟩

theorem sameB_iff_of {k n : Int} {s : ByteArray} {l : List Vl} {ks : List ByteArray} {k' n' : Int} {s' : ByteArray} {l' : List Vl} {ks' : List ByteArray} (h : l.length = l'.length → (sameL l l' = true ↔ l = l')) : sameB (.mk k n s l ks) (.mk k' n' s' l' ks') = true ↔ Vl.mk k n s l ks = .mk k' n' s' l' ks' := by
  simp only [sameB, Bool.and_eq_true, decide_eq_true_eq, bytes_beq, Vl.mk.injEq]
  constructor
  · rintro ⟨⟨⟨⟨⟨h1, h2⟩, h3⟩, h4⟩, h5⟩, h6⟩
    exact ⟨h1, h2, h3, (h h4).1 h6, h5⟩
  · rintro ⟨h1, h2, h3, h4, h5⟩
    exact ⟨⟨⟨⟨⟨h1, h2⟩, h3⟩, by rw [h4]⟩, h5⟩, (h (by rw [h4])).2 h4⟩
theorem sameL_iff : ∀ (l l' : List Vl), l.length = l'.length → (sameL l l' = true ↔ l = l')
  | [], [], _ => by simp [sameL_nil]
  | [], _ :: _, h => by simp at h
  | _ :: _, [], h => by simp at h
  | .mk k n s l q :: xs, .mk k' n' s' l' q' :: ys, h => by
    have h1 := sameB_iff_of (k := k) (n := n) (s := s) (ks := q) (k' := k') (n' := n') (s' := s') (ks' := q') (sameL_iff l l')
    have h2 := sameL_iff xs ys (by simpa using h)
    rw [sameL_cons, Bool.and_eq_true, h1, h2, List.cons.injEq]
theorem sameB_iff (a b : Vl) : sameB a b = true ↔ a = b := by
  cases a
  cases b
  exact sameB_iff_of (sameL_iff _ _)
end Go.Proofs.Ytcopkhmmpamboaa

namespace Go.Proofs.Ytcopkhmmpamboaa
open Go.RowKit

def cntL : List Vl → Nat
  | [] => 0
  | .mk _ _ _ l _ :: r => (1 + cntL l) + cntL r
def cnt : Vl → Nat
  | .mk _ _ _ l _ => 1 + cntL l
theorem cntL_nil : cntL [] = 0 := by simp only [cntL]
theorem cntL_cons (x : Vl) (r : List Vl) : cntL (x :: r) = cnt x + cntL r := by cases x; simp only [cntL, cnt]

theorem cntL_app (a b : List Vl) : cntL (a ++ b) = cntL a + cntL b := by
  induction a with
  | nil => simp [cntL_nil]
  | cons x r ih => simp [cntL_cons, ih]; omega

theorem cntL_next (l : List Vl) (i : Nat) (x : Vl) (h : l[i]? = some x) : cntL (l.take (i + 1)) = cntL (l.take i) + cnt x := by
  obtain ⟨hi, rfl⟩ := List.getElem?_eq_some_iff.1 h
  rw [List.take_succ_eq_append_getElem hi, cntL_app, cntL_cons, cntL_nil, Nat.add_zero]

theorem cntL_take_le (l : List Vl) (i : Nat) : cntL (l.take i) ≤ cntL l := by
  have h := cntL_app (l.take i) (l.drop i)
  rw [List.take_append_drop] at h
  omega

theorem cnt_pos (v : Vl) : 1 ≤ cnt v := by cases v; simp only [cnt]; omega

theorem len_cntL (l : List Vl) : l.length ≤ cntL l := by
  induction l with
  | nil => simp [cntL_nil]
  | cons x r ih => have := cnt_pos x; simp [cntL_cons]; omega

theorem cntL_wt : ∀ (l : List Vl), cntL l ≤ wtL l
  | [] => by simp [cntL_nil]
  | .mk _ _ s l ks :: r => by have := cntL_wt l; have := cntL_wt r; simp only [cntL, wtL]; omega
theorem cnt_wt (v : Vl) : cnt v ≤ wt v := by
  cases v with
  | mk k n s l ks => have := cntL_wt l; simp only [cnt, wt]; omega

theorem dep_elem (l : List Vl) (i : Nat) (x : Vl) (h : l[i]? = some x) : dep x ≤ depL l := by
  have h1 := depL_next l i x h
  have h2 := depL_app (l.take (i + 1)) (l.drop (i + 1))
  rw [List.take_append_drop] at h2
  omega

def fewB (v : Vl) : Bool := decide (cnt v ≤ 5000)
theorem few_right {v : Vl} (h : rightB v = true) : fewB v = true := by
  unfold rightB at h
  rw [Bool.and_eq_true, decide_eq_true_eq] at h
  have := cnt_wt v
  unfold fewB
  exact decide_eq_true (by omega)
end Go.Proofs.Ytcopkhmmpamboaa

namespace Go.Proofs.Ytcopkhmmpamboaa
open Go.RowKit

/-- 'make([]T, 0, n)', as one step of a region that draws -/
theorem step_make_own {P : Program} {ops : Array Oper} {o : Oper} {a : Act} {w : World} {K : Act → World → Prop} {Q : Exit → Act → World → Prop} {E : Prop}
    (hg : o.guard = none) (l c : Operand) (t : TypeId) (hop : o.op = Op.makeSlice t l c)
    (base : Nat) (e : TypeId) (i : TypeInfo) (z : Value) (size : Nat) (h1 : P.underlying t = some (.slice e)) (h2 : P.info? e = some i) (h3 : i.zero = some z) (h4 : i.size = size)
    (kl kc : IntKind) (C : Int) (n : Nat) (hl : a.eval l = .int kl 0) (hc : a.eval c = .int kc C) (hC : C = (n : Int)) (b2 : i.bytes * n ≤ 281474976710656) (b3 : n ≤ maxLen) (b4 : base ≤ w.heap.size)
    (hK : ∀ w', w'.ownsRow base e size (.slice (some ⟨w.heap.size, 0, none⟩) 0 n) 0 [] → w.grownBy w' none → K (a.put o.dst (.slice (some ⟨w.heap.size, 0, none⟩) 0 n)) w') :
    if Region.wanted o (yielded ops a.tmps) = true then Oper.wp P o a w K Q else E := by
  have hw : Region.wanted o (yielded ops a.tmps) = true := by simp [Region.wanted, hg]
  rw [if_pos hw]
  obtain ⟨w', hrun, r1, r2⟩ := run_make_own (P := P) w base t e i z size h1 h2 h3 h4 kl kc n b2 b3 b4
  subst hC
  unfold Oper.wp
  simp [execOp, hop, hl, hc, hrun, Result.andThen]
  exact hK w' r1 r2
end Go.Proofs.Ytcopkhmmpamboaa

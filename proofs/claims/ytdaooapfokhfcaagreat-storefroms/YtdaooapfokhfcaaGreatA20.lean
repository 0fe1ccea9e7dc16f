/-
  The walk of value.Copy: a right value in new memory, the zero one of another; conditions: the form's own reach.
  The walk of Weight; no conditions but the form's own reach.
  How a store lies in memory: its own blocks, those of its values (V), its open checkpoints; no conditions.
-/
import Derived.Test.YtdaooapfokhfcaaGreatA18
import Derived.Test.YtdaooapfokhfcaaGreatA19
import Derived.Test.YtdaooapfokhfcaaGreatA06
import Derived.Test.YtdaooapfokhfcaaGreatA12
import Derived.Test.YtdaooapfokhfcaaGreatA17
namespace Go.Proofs.YtdaooapfokhfcaaGreat
open Go.RowKit
set_option linter.unusedVariables false
set_option linter.unusedSimpArgs false

theorem right_wt {v : Vl} (h : rightB v = true) : okB 8 v = true ∧ wt v ≤ 2048 := by
  unfold rightB at h
  rw [Bool.and_eq_true, decide_eq_true_eq] at h
  exact h

theorem own_low {w : World} {base lo : Nat} {e : TypeId} {size : Nat} {v : Value} {n : Nat} {xs : List Value} (h : w.ownsRow base e size v n xs) (hb : lo ≤ base) : w.ownsRow lo e size v n xs := by
  refine ⟨h.1, ?_⟩
  rcases h.2 with hn | ⟨g, cap, cur, e, hbs, rest⟩
  · exact .inl hn
  · exact .inr ⟨g, cap, cur, e, Nat.le_trans hb hbs, rest⟩

set_option maxRecDepth 100000 in
set_option maxHeartbeats 400000 in
theorem copy_any (v : Vl) (x : Value) (B : Nat) (w : World) (hv : IsV w B v x) (hBs : B ≤ w.heap.size) :
    Calls Tryz.prog 49 #[x] w fun e w' => ∃ x', e = .returned x' ∧ Below w.heap.size w w' ∧ (rightB v = true → IsQ w' (fun b => w.heap.size ≤ b ∧ b < w'.heap.size) v x') ∧ (rightB v = false → x' = .agg #[.int .i64 0, .int .i64 0, .string ⟨#[]⟩, .slice none 0 0, .slice none 0 0]) := by
  obtain ⟨k, n, s, l, ks, al, ak, cl, ck, hvv, hx⟩ := hv.shape
  clear hvv
  obtain ⟨m, hm⟩ : ∃ m, ks.length = m := ⟨_, rfl⟩
  obtain ⟨ln, hln⟩ : ∃ ln, l.length = ln := ⟨_, rfl⟩
  rw [hm, hln] at hx
  subst hx
  have TW := Two.mk' w 32 #[.int .i64 k, .int .i64 n, .string s, .slice al ln cl, .slice ak m ck] #[.int .i64 0, .int .i64 0, .string ⟨#[]⟩, .slice none 0 0, .slice none 0 0]
  obtain ⟨w2, hw2⟩ : ∃ w2, (w.alloc (.cells #[.int .i64 k, .int .i64 n, .string s, .slice al ln cl, .slice ak m ck] 32)).alloc (.cells #[.int .i64 0, .int .i64 0, .string ⟨#[]⟩, .slice none 0 0, .slice none 0 0] 32) = w2 := ⟨_, rfl⟩
  rw [hw2] at TW
  obtain ⟨g, hg⟩ : ∃ g, w.heap.size = g := ⟨_, rfl⟩
  rw [hg] at TW
  have HT : Hid (∀ u, Below w2.heap.size w2 u → u.heap[g]? = some (.cells #[.int .i64 k, .int .i64 n, .string s, .slice al ln cl, .slice ak m ck] 32 (0, 0)) ∧ u.heap[g + 1]? = some (.cells #[.int .i64 0, .int .i64 0, .string ⟨#[]⟩, .slice none 0 0, .slice none 0 0] 32 (0, 0)) ∧ IsV u B v (.agg #[.int .i64 k, .int .i64 n, .string s, .slice al ln cl, .slice ak m ck]) ∧ B ≤ u.heap.size ∧ Below w.heap.size w u ∧ g + 2 ≤ u.heap.size) :=
    hide (fun u hu => by
      have h1 : Below w.heap.size w u := TW.below.trans (hu.mono (by have := TW.size; omega))
      have h2 := TW.size
      have h3 := hu.size
      exact ⟨(TW.later hu).1, (TW.later hu).2, hv.mono (h1.mono hBs), by omega, h1, by omega⟩)
  obtain ⟨c0, c1, c2, c3, c4⟩ := row_cell TW.at0
  have CF := hide (right_code v _ B w2 (unhide HT w2 (Below.refl _ _)).2.2.1 (unhide HT w2 (Below.refl _ _)).2.2.2.1)
  clear TW hv hm hln
  cases hF : rightB v with
  | false =>
    rw [hF] at CF
    clear hF
    go_enter Tryz.func49, Tryz.ntmps49
    go_wp2_with fail
    refine (unhide CF).mono ?_
    rintro e u3 ⟨rfl, b3⟩
    have H3 := hide b3
    clear b3 CF c0 c1 c2 c3 c4
    obtain ⟨c0, c1, c2, c3, c4⟩ := row_cell (unhide HT u3 (unhide H3)).1
    have ATX := (unhide HT u3 (unhide H3)).2.1
    obtain ⟨z0, z1, z2, z3, z4⟩ := row_cell ATX
    have fz : ∀ q, u3.frozen? ⟨g + 1, q, none⟩ = false := fun q => frozen_of_row u3 (g + 1) q _ _ ATX
    have fz0 := fz 0
    have fz1 := fz 1
    have fz2 := fz 2
    have fz3 := fz 3
    have fz4 := fz 4
    have HAT := hide ATX
    clear fz ATX
    go_wp2_with fail
    have ATX := unhide HAT
    have BW := (unhide HT u3 (unhide H3)).2.2.2.2.1
    have R9 := five_set u3 (g + 1) 32 _ _ _ _ _ (.int .i64 0) (.int .i64 0) (.string ⟨#[]⟩) (.slice none 0 0) (.slice none 0 0) ATX
    have O9 := five_other u3 (g + 1) (x0 := .int .i64 0) (x1 := .int .i64 0) (x2 := .string ⟨#[]⟩) (x3 := .slice none 0 0) (x4 := .slice none 0 0)
    have S9 : (((((u3.setCell ⟨g + 1, 0, none⟩ (.int .i64 0)).setCell ⟨g + 1, 1, none⟩ (.int .i64 0)).setCell ⟨g + 1, 2, none⟩ (.string ⟨#[]⟩)).setCell ⟨g + 1, 3, none⟩ (.slice none 0 0)).setCell ⟨g + 1, 4, none⟩ (.slice none 0 0)).heap.size = u3.heap.size := by simp
    obtain ⟨w9, hw9⟩ : ∃ w9, (((((u3.setCell ⟨g + 1, 0, none⟩ (.int .i64 0)).setCell ⟨g + 1, 1, none⟩ (.int .i64 0)).setCell ⟨g + 1, 2, none⟩ (.string ⟨#[]⟩)).setCell ⟨g + 1, 3, none⟩ (.slice none 0 0)).setCell ⟨g + 1, 4, none⟩ (.slice none 0 0)) = w9 := ⟨_, rfl⟩
    rw [hw9] at R9 S9 ⊢
    have B9 : Below w.heap.size w w9 := by rw [← hw9]; exact five_below BW (by omega) _ _ _ _ _
    obtain ⟨r0, r1, r2, r3, r4⟩ := row_cell R9
    refine bodyPost_ret (v := .agg #[.int .i64 0, .int .i64 0, .string ⟨#[]⟩, .slice none 0 0, .slice none 0 0]) (by simp [results, Tryz.results49, go_sem, r0, r1, r2, r3, r4]) rfl ?_
    first | exact ⟨_, rfl, B9, (fun h => by cases h), fun _ => rfl⟩ | (rw [hg] at B9; exact ⟨_, rfl, B9, (fun h => by cases h), fun _ => rfl⟩) | exact ⟨rfl, B9⟩ | (rw [hg] at B9; exact ⟨rfl, B9⟩)
  | true =>
    rw [hF] at CF
    have hcn : cnt v ≤ 5000 := by have h := few_right hF; unfold fewB at h; exact of_decide_eq_true h
    have CD := fun u hu => hide (cln_any (dep v) v _ B u (Nat.le_refl _) hcn (unhide HT u hu).2.2.1 (unhide HT u hu).2.2.2.1)
    clear hF hcn
    go_enter Tryz.func49, Tryz.ntmps49
    go_wp2_with fail
    refine (unhide CF).mono ?_
    rintro e u3 ⟨rfl, b3⟩
    have H3 := hide b3
    clear b3 CF c0 c1 c2 c3 c4
    obtain ⟨c0, c1, c2, c3, c4⟩ := row_cell (unhide HT u3 (unhide H3)).1
    go_wp2_with fail
    refine (unhide (CD u3 (unhide H3))).mono ?_
    rintro e u4 ⟨x4, rfl, p4, b4⟩
    obtain ⟨k4, n4, s4, l4, ks4, al4, ak4, cl4, ck4, hv4, rfl⟩ := p4.shape
    clear hv4
    obtain ⟨lc, hlc⟩ : ∃ lc, l4.length = lc := ⟨_, rfl⟩
    obtain ⟨mc, hmc⟩ : ∃ mc, ks4.length = mc := ⟨_, rfl⟩
    rw [hlc, hmc] at p4 ⊢
    have X4 := (unhide H3).trans (b4.mono (unhide H3).size)
    have H4 := hide (And.intro X4 (And.intro p4 b4.size))
    have ATX := (unhide HT u4 X4).2.1
    obtain ⟨z0, z1, z2, z3, z4⟩ := row_cell ATX
    have fz : ∀ q, u4.frozen? ⟨g + 1, q, none⟩ = false := fun q => frozen_of_row u4 (g + 1) q _ _ ATX
    have fz0 := fz 0
    have fz1 := fz 1
    have fz2 := fz 2
    have fz3 := fz 3
    have fz4 := fz 4
    have HAT := hide ATX
    clear fz ATX p4 b4 X4 CD hlc hmc c0 c1 c2 c3 c4
    go_wp2_with fail
    have ATX := unhide HAT
    have BW := (unhide HT u4 (unhide H4).1).2.2.2.2.1
    have g3 := (unhide HT u3 (unhide H3)).2.2.2.2.2
    have R9 := five_set u4 (g + 1) 32 _ _ _ _ _ (.int .i64 k4) (.int .i64 n4) (.string s4) (.slice al4 lc cl4) (.slice ak4 mc ck4) ATX
    have O9 := five_other u4 (g + 1) (x0 := .int .i64 k4) (x1 := .int .i64 n4) (x2 := .string s4) (x3 := .slice al4 lc cl4) (x4 := .slice ak4 mc ck4)
    have S9 : (((((u4.setCell ⟨g + 1, 0, none⟩ (.int .i64 k4)).setCell ⟨g + 1, 1, none⟩ (.int .i64 n4)).setCell ⟨g + 1, 2, none⟩ (.string s4)).setCell ⟨g + 1, 3, none⟩ (.slice al4 lc cl4)).setCell ⟨g + 1, 4, none⟩ (.slice ak4 mc ck4)).heap.size = u4.heap.size := by simp
    obtain ⟨w9, hw9⟩ : ∃ w9, (((((u4.setCell ⟨g + 1, 0, none⟩ (.int .i64 k4)).setCell ⟨g + 1, 1, none⟩ (.int .i64 n4)).setCell ⟨g + 1, 2, none⟩ (.string s4)).setCell ⟨g + 1, 3, none⟩ (.slice al4 lc cl4)).setCell ⟨g + 1, 4, none⟩ (.slice ak4 mc ck4)) = w9 := ⟨_, rfl⟩
    rw [hw9] at R9 S9 ⊢
    have B9 : Below w.heap.size w w9 := by rw [← hw9]; exact five_below BW (by omega) _ _ _ _ _
    obtain ⟨r0, r1, r2, r3, r4⟩ := row_cell R9
    refine bodyPost_ret (v := .agg #[.int .i64 k4, .int .i64 n4, .string s4, .slice al4 lc cl4, .slice ak4 mc ck4]) (by simp [results, Tryz.results49, go_sem, r0, r1, r2, r3, r4]) rfl ?_
    have Q9 : IsQ w9 (fun b => w.heap.size ≤ b ∧ b < w9.heap.size) v (.agg #[.int .i64 k4, .int .i64 n4, .string s4, .slice al4 lc cl4, .slice ak4 mc ck4]) := ((unhide H4).2.1.move (fun q hq => by rw [← hw9]; exact O9 q (by have := hq.1; omega))).weak (fun q hq => ⟨by have := hq.1; omega, by have := hq.2; omega⟩)
    first | exact ⟨_, rfl, B9, (fun _ => Q9), fun h => by cases h⟩ | (rw [hg] at B9 Q9; exact ⟨_, rfl, B9, (fun _ => Q9), fun h => by cases h⟩) | exact ⟨_, rfl, B9, Q9⟩ | (rw [hg] at B9 Q9; exact ⟨_, rfl, B9, Q9⟩)

end Go.Proofs.YtdaooapfokhfcaaGreat

namespace Go.Proofs.YtdaooapfokhfcaaGreat
open Go.RowKit

set_option maxRecDepth 100000 in
set_option maxHeartbeats 400000 in
theorem weight_code (v : Vl) (x : Value) (B : Nat) (w : World) (hv : IsV w B v x) (hBs : B ≤ w.heap.size) :
    Calls Tryz.prog 96 #[x] w fun e w' => e = .returned (.int .i64 (wt0 v : Int)) ∧ Below w.heap.size w w' := by
  obtain ⟨k', n', s', l', ks', al', ak', cl', ck', hy', hx⟩ := hv.shape
  obtain ⟨ll, hll⟩ : ∃ ll, l'.length = ll := ⟨_, rfl⟩
  obtain ⟨m, hm⟩ : ∃ m, ks'.length = m := ⟨_, rfl⟩
  rw [hll, hm] at hx
  subst hx
  obtain ⟨w1, hw1⟩ : ∃ w1, w.alloc (.cells #[.int .i64 k', .int .i64 n', .string s', .slice al' ll cl', .slice ak' m ck'] 32) = w1 := ⟨_, rfl⟩
  have BX := Box.mk' w (.int .i64 k') (.int .i64 n') (.string s') (.slice al' ll cl') (.slice ak' m ck')
  rw [hw1] at BX
  obtain ⟨c0, c1, c2, c3, c4⟩ := row_cell BX.row
  have z1 := BX.size
  have HB := hide BX.below
  have CM := hide (measure_any v _ B w1 (hv.mono (BX.below.mono hBs)) (by omega))
  clear BX hv hy'
  go_enter Tryz.func96, Tryz.ntmps96
  go_wp2_with fail
  refine (unhide CM).mono ?_
  rintro e w2 ⟨rfl, b2⟩
  have B2 := hide b2
  clear b2 CM
  go_wp2_with fail
  go_ret
  exact ⟨rfl, (unhide HB).trans ((unhide B2).mono (by omega))⟩

end Go.Proofs.YtdaooapfokhfcaaGreat

namespace Go.Proofs.YtdaooapfokhfcaaGreat
open Go.RowKit
set_option linter.unusedVariables false
set_option linter.unusedSimpArgs false

/-- what an entry weighs -/
def ew (p : ByteArray × Vl) : Nat := 1 + p.1.size + wt0 p.2
def tot (l : List (ByteArray × Vl)) : Nat := (l.map ew).sum

structure Mk where
  g : Nat
  v : Value
  l : List (ByteArray × (ThU × Option Vl))

structure Sx where
  s : Nat
  g : Nat
  v : Value
  l : List (ByteArray × (ThV × Vl))
  wg : Int
  mv : Value
  ms : List Mk

def Mk.own (m : Mk) (j : Nat) : Prop := j = m.g ∨ m.v.ownBlock = some j
def Sx.own (t : Sx) (j : Nat) : Prop := j = t.s ∨ j = t.g ∨ t.v.ownBlock = some j ∨ t.mv.ownBlock = some j ∨ ∃ m ∈ t.ms, m.own j

/-- a key that may be -/
def KeyOk (k : ByteArray) : Prop := 1 ≤ k.size ∧ k.size ≤ 32

structure EOk (w : World) (V : Nat → Prop) (k : ByteArray) (x : ThV × Vl) : Prop where
  is : IsP w V x.2 (.agg (thV x.1).toArray)
  right : rightB x.2 = true
  key : KeyOk k

def UHow (w : World) (V : Nat → Prop) (bs bk : Nat) (t : ThU) : Option Vl → Prop
  | none => t = (.func 80, #[], #[.pointer (some ⟨bs, 0, none⟩), .pointer (some ⟨bk, 0, none⟩)], true)
  | some x => ∃ (bn : Nat) (c : ThV), V bn ∧ w.heap[bn]? = some (.cells (thV c).toArray 32 (0, 0)) ∧ IsP w V x (.agg (thV c).toArray) ∧ rightB x = true ∧
      t = (.func 81, #[], #[.pointer (some ⟨bs, 0, none⟩), .pointer (some ⟨bk, 0, none⟩), .pointer (some ⟨bn, 0, none⟩)], false)

/-- what undoes a change of k -/
def UOk (w : World) (V : Nat → Prop) (s : Nat) (k : ByteArray) (x : ThU × Option Vl) : Prop :=
  KeyOk k ∧ ∃ bs bk, V bs ∧ V bk ∧ w.heap[bs]? = some (.cells #[.pointer (some ⟨s, 0, none⟩)] 23 (0, 0)) ∧ w.heap[bk]? = some (.cells #[.string k] 9 (0, 0)) ∧ UHow w V bs bk x.1 x.2

structure MkOk (w : World) (V : Nat → Prop) (s : Nat) (m : Mk) : Prop where
  tab : KTU w m.g m.v (mapK Prod.fst m.l)
  rk : Rk m.l
  ok : ∀ k x, (k, x) ∈ m.l → UOk w V s k x

/-- the marks, as the row of them holds them -/
def ptrs (ms : List Mk) : List Value := ms.map fun m => .pointer (some ⟨m.g, 0, none⟩)

structure Sto (w : World) (V : Nat → Prop) (t : Sx) : Prop where
  box : w.heap[t.s]? = some (.cells #[.pointer (some ⟨t.g, 0, none⟩), .int .i64 t.wg, t.mv] 52 (0, 0))
  tab : KTV w t.g t.v (mapK Prod.fst t.l)
  rk : Rk t.l
  ok : ∀ k x, (k, x) ∈ t.l → EOk w V k x
  marks : w.ownsRow 0 88 1 t.mv t.ms.length (ptrs t.ms)
  mks : ∀ m ∈ t.ms, MkOk w V t.s m
  apart : t.ms.Pairwise fun a b => ∀ j, a.own j → ¬ b.own j
  vs : ∀ j, V j → j < w.heap.size ∧ ¬ t.own j

section
variable {w w' w1 w2 : World} {V V' : Nat → Prop} {t t' : Sx}

/-- the type of a block -/
def tyOf (w : World) (j : Nat) (T : TypeId) : Prop := ∃ c, w.heap[j]? = some (.cells c T (0, 0))

theorem ty_ne {a b : Nat} {S T : TypeId} (ha : tyOf w a S) (hb : tyOf w b T) (h : S ≠ T) : a ≠ b := fun e => by
  subst e
  obtain ⟨c, hc⟩ := ha
  obtain ⟨d, hd⟩ := hb
  rw [hc] at hd
  simp only [Option.some.injEq, Obj.cells.injEq] at hd
  exact h hd.2.1

theorem row_ty {base : Nat} {T : TypeId} {σ n : Nat} {v : Value} {xs : List Value} (h : w.ownsRow base T σ v n xs) {b : Nat} (hb : v.ownBlock = some b) : tyOf w b T := by
  rcases h.2 with ⟨rfl, _⟩ | ⟨g, cap, cur, rfl, _, hg, _⟩
  · cases hb
  · cases hb
    exact ⟨cur, hg⟩

theorem tyOf.lt {j : Nat} {T : TypeId} (h : tyOf w j T) : j < w.heap.size := by
  obtain ⟨c, hc⟩ := h
  exact (Array.getElem?_eq_some_iff.1 hc).1

theorem row_to {base : Nat} {T : TypeId} {σ n : Nat} {v : Value} {xs : List Value} (h : w.ownsRow base T σ v n xs) (hw : ∀ b, v.ownBlock = some b → w'.heap[b]? = w.heap[b]?) : w'.ownsRow base T σ v n xs := by
  refine ⟨h.1, ?_⟩
  rcases h.2 with hn | ⟨g, cap, cur, rfl, hb, hg, rest⟩
  · exact .inl hn
  · exact .inr ⟨g, cap, cur, rfl, hb, (hw g rfl).trans hg, rest⟩

theorem EOk.to {k : ByteArray} {x : ThV × Vl} (h : EOk w V k x) (hw : ∀ b, V b → w'.heap[b]? = w.heap[b]?) (hV : ∀ b, V b → V' b) : EOk w' V' k x := ⟨h.is.to hw hV, h.right, h.key⟩
theorem UOk.to {s : Nat} {k : ByteArray} {x : ThU × Option Vl} (h : UOk w V s k x) (hw : ∀ b, V b → w'.heap[b]? = w.heap[b]?) (hV : ∀ b, V b → V' b) : UOk w' V' s k x := by
  obtain ⟨hk, bs, bk, h1, h2, h3, h4, h5⟩ := h
  refine ⟨hk, bs, bk, hV _ h1, hV _ h2, (hw _ h1).trans h3, (hw _ h2).trans h4, ?_⟩
  obtain ⟨t, o⟩ := x
  cases o with
  | none => exact h5
  | some x =>
    obtain ⟨bn, c, g1, g2, g3, g4, g5⟩ := h5
    exact ⟨bn, c, hV _ g1, (hw _ g1).trans g2, g3.to hw hV, g4, g5⟩
theorem MkOk.to {s : Nat} {m : Mk} (h : MkOk w V s m) (hw : ∀ b, V b ∨ m.own b → w'.heap[b]? = w.heap[b]?) (hV : ∀ b, V b → V' b) : MkOk w' V' s m :=
  ⟨h.tab.to (hw _ (.inr (.inl rfl))) (fun b hb => hw b (.inr (.inr hb))), h.rk, fun k x hx => (h.ok k x hx).to (fun b hb => hw b (.inl hb)) hV⟩

theorem Sto.ty (h : Sto w V t) {j : Nat} (hj : t.own j) : ∃ T, tyOf w j T ∧ T ∈ [52, 81, 104, 88, 112, 118] := by
  rcases hj with rfl | rfl | hj | hj | ⟨m, hm, rfl | hj⟩
  · exact ⟨_, ⟨_, h.box⟩, by simp⟩
  · exact ⟨_, ⟨_, h.tab.here⟩, by simp⟩
  · exact ⟨_, row_ty h.tab.row hj, by simp⟩
  · exact ⟨_, row_ty h.marks hj, by simp⟩
  · exact ⟨_, ⟨_, (h.mks m hm).tab.here⟩, by simp⟩
  · exact ⟨_, row_ty (h.mks m hm).tab.row hj, by simp⟩
theorem Sto.lt (h : Sto w V t) {j : Nat} (hj : t.own j) : j < w.heap.size := by
  obtain ⟨T, hT, _⟩ := h.ty hj
  exact hT.lt
theorem Sto.cells (h : Sto w V t) {j : Nat} (hj : t.own j) : ∃ c T, w.heap[j]? = some (.cells c T (0, 0)) := by
  obtain ⟨T, ⟨c, hc⟩, _⟩ := h.ty hj
  exact ⟨c, T, hc⟩

/-- a store stands where its blocks stand; more may be its values' -/
theorem Sto.to (h : Sto w V t) (hw : ∀ j, t.own j ∨ V j → w'.heap[j]? = w.heap[j]?) (hV : ∀ j, V j → V' j) (hv : ∀ j, V' j → j < w'.heap.size ∧ ¬ t.own j) : Sto w' V' t :=
  ⟨(hw _ (.inl (.inl rfl))).trans h.box, h.tab.to (hw _ (.inl (.inr (.inl rfl)))) (fun b hb => hw b (.inl (.inr (.inr (.inl hb))))), h.rk, fun k x hx => (h.ok k x hx).to (fun b hb => hw b (.inr hb)) hV,
    row_to h.marks (fun b hb => hw b (.inl (.inr (.inr (.inr (.inl hb)))))), fun m hm => (h.mks m hm).to (fun b hb => hw b (by
      rcases hb with hb | hb
      · exact .inr hb
      · exact .inl (.inr (.inr (.inr (.inr ⟨m, hm, hb⟩)))))) hV, h.apart, hv⟩

/-- more may be its values': all that is new -/
def VUp (w w' : World) (V : Nat → Prop) (j : Nat) : Prop := V j ∨ (w.heap.size ≤ j ∧ j < w'.heap.size)

theorem Sto.up (h : Sto w V t) (hb : Below w.heap.size w w') : Sto w' (VUp w w' V) t :=
  h.to (fun j hj => hb.block j (by
    rcases hj with hj | hj
    · exact h.lt hj
    · exact (h.vs j hj).1)) (fun j hj => .inl hj) (fun j hj => by
    rcases hj with hj | ⟨h1, h2⟩
    · exact ⟨Nat.lt_of_lt_of_le (h.vs j hj).1 hb.size, (h.vs j hj).2⟩
    · exact ⟨h2, fun e => by have := h.lt e; omega⟩)

theorem Sto.later (h : Sto w V t) (hb : Below w.heap.size w w') : Sto w' V t :=
  h.to (fun j hj => hb.block j (by
    rcases hj with hj | hj
    · exact h.lt hj
    · exact (h.vs j hj).1)) (fun j hj => hj) (fun j hj => ⟨Nat.lt_of_lt_of_le (h.vs j hj).1 hb.size, (h.vs j hj).2⟩)

/-- another one's doing -/
theorem Sto.other {G : Nat → Prop} (h : Sto w V t) (hf : Fr G w w') (h1 : ∀ j, G j → ¬ t.own j) (h2 : ∀ j, G j → ¬ V j) : Sto w' V t :=
  h.to (fun j hj => hf.block j (by
    rcases hj with hj | hj
    · exact h.lt hj
    · exact (h.vs j hj).1) (fun e => by
    rcases hj with hj | hj
    · exact h1 j e hj
    · exact h2 j e hj)) (fun j hj => hj) (fun j hj => ⟨Nat.lt_of_lt_of_le (h.vs j hj).1 hf.size, (h.vs j hj).2⟩)

/-- what a doing leaves -/
structure Adv (w w' : World) (V V' : Nat → Prop) (t t' : Sx) : Prop where
  fr : Fr t.own w w'
  own : ∀ j, t'.own j → t.own j ∨ w.heap.size ≤ j
  vs : ∀ j, V' j → V j ∨ w.heap.size ≤ j
  s : t'.s = t.s

theorem Adv.refl (w : World) (V : Nat → Prop) (t : Sx) : Adv w w V V t t := ⟨Fr.refl _ _, fun _ h => .inl h, fun _ h => .inl h, rfl⟩
theorem Adv.trans {V1 V2 : Nat → Prop} {t1 t2 : Sx} (h : Adv w w1 V V1 t t1) (h2 : Adv w1 w2 V1 V2 t1 t2) : Adv w w2 V V2 t t2 :=
  ⟨h.fr.trans h2.fr (fun j hj e => (h.own j e).resolve_right (by omega)), fun j hj => by
    have := h.fr.size
    rcases h2.own j hj with e | e
    · exact h.own j e
    · exact .inr (by omega), fun j hj => by
    have := h.fr.size
    rcases h2.vs j hj with e | e
    · exact h.vs j e
    · exact .inr (by omega), h2.s.trans h.s⟩
theorem Adv.of (hb : Below w.heap.size w w') (t : Sx) (V : Nat → Prop) : Adv w w' V (VUp w w' V) t t := ⟨Fr.of hb, fun _ h => .inl h, fun j hj => by
  rcases hj with h | ⟨h, _⟩
  · exact .inl h
  · exact .inr h, rfl⟩
theorem Adv.of' (hb : Below w.heap.size w w') (t : Sx) (V : Nat → Prop) : Adv w w' V V t t := ⟨Fr.of hb, fun _ h => .inl h, fun j hj => .inl hj, rfl⟩

/-- what is apart from a store stays as it was, and apart -/
theorem Adv.kept {P : Nat → Prop} (h : Adv w w' V V' t t') (hP : ∀ j, P j → j < w.heap.size ∧ ¬ t.own j) : (∀ j, P j → w'.heap[j]? = w.heap[j]?) ∧ ∀ j, P j → j < w'.heap.size ∧ ¬ t'.own j :=
  ⟨fun j hj => h.fr.block j (hP j hj).1 (hP j hj).2, fun j hj => ⟨Nat.lt_of_lt_of_le (hP j hj).1 h.fr.size, fun e => by
    rcases h.own j e with e | e
    · exact (hP j hj).2 e
    · have := (hP j hj).1
      omega⟩⟩

/-- the entries' table has turned -/
theorem Sto.turn {v' : Value} {l' : List (ByteArray × (ThV × Vl))} (h : Sto w V t) (hf : Fr (fun j => j = t.g ∨ t.v.ownBlock = some j) w w') (ht : KTV w' t.g v' (mapK Prod.fst l')) (hr : Rk l') (hok : ∀ k x, (k, x) ∈ l' → EOk w V k x) (hv : ∀ b, v'.ownBlock = some b → t.v.ownBlock = some b ∨ w.heap.size ≤ b) :
    Sto w' V { t with v := v', l := l' } ∧ Adv w w' V V t { t with v := v', l := l' } := by
  have own' : ∀ j, Sx.own { t with v := v', l := l' } j → t.own j ∨ w.heap.size ≤ j := fun j hj => by
    rcases hj with hj | hj | hj | hj
    · exact .inl (.inl hj)
    · exact .inl (.inr (.inl hj))
    · rcases hv j hj with e | e
      · exact .inl (.inr (.inr (.inl e)))
      · exact .inr e
    · exact .inl (.inr (.inr (.inr hj)))
  have hVb : ∀ b, V b → w'.heap[b]? = w.heap[b]? := fun b hb => hf.block b (h.vs b hb).1 (fun e => (h.vs b hb).2 (by
    rcases e with e | e
    · exact .inr (.inl e)
    · exact .inr (.inr (.inl e))))
  have hne : ∀ j T, tyOf w j T → T ≠ 81 → T ≠ 104 → w'.heap[j]? = w.heap[j]? := fun j T hj h1 h2 => hf.block j hj.lt (fun e => by
    rcases e with e | e
    · exact ty_ne hj ⟨_, h.tab.here⟩ h1 e
    · exact ty_ne hj (row_ty h.tab.row e) h2 rfl)
  refine ⟨⟨(hne _ _ ⟨_, h.box⟩ (by decide) (by decide)).trans h.box, ht, hr, fun k x hx => (hok k x hx).to hVb (fun _ h => h), row_to h.marks (fun b hb => hne b _ (row_ty h.marks hb) (by decide) (by decide)), fun m hm => (h.mks m hm).to (fun b hb => ?_) (fun _ h => h), h.apart, fun j hj => ⟨Nat.lt_of_lt_of_le (h.vs j hj).1 hf.size, fun e => ?_⟩⟩, ⟨hf.mono (fun j _ e => ?_), own', fun _ h => .inl h, rfl⟩⟩
  · rcases hb with hb | rfl | hb
    · exact hVb b hb
    · exact hne _ _ ⟨_, (h.mks m hm).tab.here⟩ (by decide) (by decide)
    · exact hne _ _ (row_ty (h.mks m hm).tab.row hb) (by decide) (by decide)
  · rcases own' j e with e | e
    · exact (h.vs j hj).2 e
    · have := (h.vs j hj).1
      omega
  · rcases e with e | e
    · exact .inr (.inl e)
    · exact .inr (.inr (.inl e))

/-- its own cell has turned -/
theorem Sto.self {i : Nat} {x : Value} {g' : Nat} {n' : Int} {mv' : Value} (h : Sto w V t) (hi : (#[.pointer (some ⟨t.g, 0, none⟩), .int .i64 t.wg, t.mv] : Array Value).setIfInBounds i x = #[.pointer (some ⟨t.g, 0, none⟩), .int .i64 n', t.mv]) :
    Sto (w.setCell ⟨t.s, i, none⟩ x) V { t with wg := n' } ∧ Adv w (w.setCell ⟨t.s, i, none⟩ x) V V t { t with wg := n' } := by
  have hne : ∀ j, j ≠ t.s → (w.setCell ⟨t.s, i, none⟩ x).heap[j]? = w.heap[j]? := fun j hj => heap_setCell_other _ _ _ _ hj
  have hVb : ∀ b, V b → (w.setCell ⟨t.s, i, none⟩ x).heap[b]? = w.heap[b]? := fun b hb => hne b (fun e => (h.vs b hb).2 (.inl e))
  have hT : ∀ j T, tyOf w j T → T ≠ 52 → (w.setCell ⟨t.s, i, none⟩ x).heap[j]? = w.heap[j]? := fun j T hj h1 => hne j (ty_ne hj ⟨_, h.box⟩ h1)
  have hbox := heap_setCell_same w t.s i _ _ x h.box
  rw [hi] at hbox
  refine ⟨⟨hbox, h.tab.to (hT _ _ ⟨_, h.tab.here⟩ (by decide)) (fun b hb => hT _ _ (row_ty h.tab.row hb) (by decide)), h.rk, fun k x hx => (h.ok k x hx).to hVb (fun _ h => h), row_to h.marks (fun b hb => hT b _ (row_ty h.marks hb) (by decide)), fun m hm => (h.mks m hm).to (fun b hb => ?_) (fun _ h => h), h.apart, fun j hj => ⟨by rw [sz_setCell]; exact (h.vs j hj).1, (h.vs j hj).2⟩⟩, ⟨(Fr.set t.s i x w).mono (fun j _ e => .inl e), fun j hj => .inl hj, fun _ h => .inl h, rfl⟩⟩
  rcases hb with hb | rfl | hb
  · exact hVb b hb
  · exact hT _ _ ⟨_, (h.mks m hm).tab.here⟩ (by decide)
  · exact hT _ _ (row_ty (h.mks m hm).tab.row hb) (by decide)

/-- the marks have turned -/
theorem Sto.remark {mv' : Value} {ms' : List Mk} (h : Sto w V t) (hrow : w1.ownsRow 0 88 1 mv' ms'.length (ptrs ms')) (hf : Fr (fun j => t.mv.ownBlock = some j) w w1) (hv : ∀ b, mv'.ownBlock = some b → t.mv.ownBlock = some b ∨ w.heap.size ≤ b)
    (hm : ∀ m ∈ ms', (m ∈ t.ms) ∨ (MkOk w1 V t.s m ∧ ∀ j, m.own j → w.heap.size ≤ j)) (hap : ms'.Pairwise fun a b => ∀ j, a.own j → ¬ b.own j) :
    Sto (w1.setCell ⟨t.s, 2, none⟩ mv') V { t with mv := mv', ms := ms' } ∧ Adv w (w1.setCell ⟨t.s, 2, none⟩ mv') V V t { t with mv := mv', ms := ms' } := by
  have own' : ∀ j, Sx.own { t with mv := mv', ms := ms' } j → t.own j ∨ w.heap.size ≤ j := fun j hj => by
    rcases hj with hj | hj | hj | hj | ⟨m, hm', hj⟩
    · exact .inl (.inl hj)
    · exact .inl (.inr (.inl hj))
    · exact .inl (.inr (.inr (.inl hj)))
    · rcases hv j hj with e | e
      · exact .inl (.inr (.inr (.inr (.inl e))))
      · exact .inr e
    · rcases hm m hm' with e | ⟨_, e⟩
      · exact .inl (.inr (.inr (.inr (.inr ⟨m, e, hj⟩))))
      · exact .inr (e j hj)
  have hs1 : w1.heap[t.s]? = w.heap[t.s]? := hf.block _ (Array.getElem?_eq_some_iff.1 h.box).1 (fun e => ty_ne ⟨_, h.box⟩ (row_ty h.marks e) (by decide) rfl)
  have hne : ∀ j, j < w.heap.size → j ≠ t.s → t.mv.ownBlock ≠ some j → (w1.setCell ⟨t.s, 2, none⟩ mv').heap[j]? = w.heap[j]? := fun j hl hj hk => (heap_setCell_other _ _ _ _ hj).trans (hf.block j hl hk)
  have hVb : ∀ b, V b → (w1.setCell ⟨t.s, 2, none⟩ mv').heap[b]? = w.heap[b]? := fun b hb => hne b (h.vs b hb).1 (fun e => (h.vs b hb).2 (.inl e)) (fun e => (h.vs b hb).2 (.inr (.inr (.inr (.inl e)))))
  have hT : ∀ j T, tyOf w j T → T ≠ 52 → T ≠ 88 → (w1.setCell ⟨t.s, 2, none⟩ mv').heap[j]? = w.heap[j]? := fun j T hj h1 h2 => hne j hj.lt (ty_ne hj ⟨_, h.box⟩ h1) (fun e => ty_ne hj (row_ty h.marks e) h2 rfl)
  have hbox := heap_setCell_same w1 t.s 2 _ _ mv' (hs1.trans h.box)
  refine ⟨⟨hbox, h.tab.to (hT _ _ ⟨_, h.tab.here⟩ (by decide) (by decide)) (fun b hb => hT _ _ (row_ty h.tab.row hb) (by decide) (by decide)), h.rk, fun k x hx => (h.ok k x hx).to hVb (fun _ h => h), row_to hrow (fun b hb => heap_setCell_other _ _ _ _ (fun e => ?_)), fun m hm' => ?_, hap, fun j hj => ⟨by rw [sz_setCell]; exact Nat.lt_of_lt_of_le (h.vs j hj).1 hf.size, fun e => ?_⟩⟩, ⟨(hf.mono (G := t.own) (fun j _ e => .inr (.inr (.inr (.inl e))))).trans (Fr.set t.s 2 mv' w1) (fun j _ e => .inl e), own', fun _ h => .inl h, rfl⟩⟩
  · rcases hv b hb with e' | e'
    · exact ty_ne (row_ty h.marks e') ⟨_, h.box⟩ (by decide) e
    · have h1 := (Array.getElem?_eq_some_iff.1 h.box).1
      have e2 : b = t.s := e
      omega
  · rcases hm m hm' with e | ⟨e, e2⟩
    · refine (h.mks m e).to (fun b hb => ?_) (fun _ h => h)
      rcases hb with hb | rfl | hb
      · exact hVb b hb
      · exact hT _ _ ⟨_, (h.mks m e).tab.here⟩ (by decide) (by decide)
      · exact hT _ _ (row_ty (h.mks m e).tab.row hb) (by decide) (by decide)
    · refine e.to (fun b hb => heap_setCell_other _ _ _ _ (fun e' => ?_)) (fun _ h => h)
      have e'' : b = t.s := e'
      have h1 := (Array.getElem?_eq_some_iff.1 h.box).1
      rcases hb with hb | hb
      · exact (h.vs b hb).2 (.inl e'')
      · have := e2 b hb
        omega
  · rcases own' j e with e | e
    · exact (h.vs j hj).2 e
    · have := (h.vs j hj).1
      omega

/-- the last checkpoint's table has turned -/
theorem Sto.last {r : List Mk} {m : Mk} {v' : Value} {l' : List (ByteArray × (ThU × Option Vl))} (h : Sto w V t) (hms : t.ms = r ++ [m]) (hf : Fr (fun j => j = m.g ∨ m.v.ownBlock = some j) w w') (ht : KTU w' m.g v' (mapK Prod.fst l')) (hr : Rk l') (hok : ∀ k x, (k, x) ∈ l' → UOk w V t.s k x) (hv : ∀ b, v'.ownBlock = some b → m.v.ownBlock = some b ∨ w.heap.size ≤ b) :
    Sto w' V { t with ms := r ++ [⟨m.g, v', l'⟩] } ∧ Adv w w' V V t { t with ms := r ++ [⟨m.g, v', l'⟩] } := by
  have hm : m ∈ t.ms := by rw [hms]; simp
  have hmo := h.mks m hm
  have own1 : ∀ j, Mk.own ⟨m.g, v', l'⟩ j → m.own j ∨ w.heap.size ≤ j := fun j hj => by
    rcases hj with e | e
    · exact .inl (.inl e)
    · rcases hv j e with e | e
      · exact .inl (.inr e)
      · exact .inr e
  have own' : ∀ j, Sx.own { t with ms := r ++ [⟨m.g, v', l'⟩] } j → t.own j ∨ w.heap.size ≤ j := fun j hj => by
    rcases hj with hj | hj | hj | hj | ⟨a, ha, hj⟩
    · exact .inl (.inl hj)
    · exact .inl (.inr (.inl hj))
    · exact .inl (.inr (.inr (.inl hj)))
    · exact .inl (.inr (.inr (.inr (.inl hj))))
    · rcases List.mem_append.1 ha with ha | ha
      · exact .inl (.inr (.inr (.inr (.inr ⟨a, by rw [hms]; exact List.mem_append_left _ ha, hj⟩))))
      · rw [List.mem_singleton] at ha
        subst ha
        rcases own1 j hj with e | e
        · exact .inl (.inr (.inr (.inr (.inr ⟨m, hm, e⟩))))
        · exact .inr e
  have hVb : ∀ b, V b → w'.heap[b]? = w.heap[b]? := fun b hb => hf.block b (h.vs b hb).1 (fun e => (h.vs b hb).2 (.inr (.inr (.inr (.inr ⟨m, hm, e⟩)))))
  have hT : ∀ j T, tyOf w j T → T ≠ 112 → T ≠ 118 → w'.heap[j]? = w.heap[j]? := fun j T hj h1 h2 => hf.block j hj.lt (fun e => by
    rcases e with e | e
    · exact ty_ne hj ⟨_, hmo.tab.here⟩ h1 e
    · exact ty_ne hj (row_ty hmo.tab.row e) h2 rfl)
  have hap := h.apart
  rw [hms, List.pairwise_append] at hap
  have hp : ptrs (r ++ [⟨m.g, v', l'⟩]) = ptrs t.ms := by rw [hms]; simp [ptrs]
  have hl : (r ++ [(⟨m.g, v', l'⟩ : Mk)]).length = t.ms.length := by rw [hms]; simp
  refine ⟨⟨(hT _ _ ⟨_, h.box⟩ (by decide) (by decide)).trans h.box, h.tab.to (hT _ _ ⟨_, h.tab.here⟩ (by decide) (by decide)) (fun b hb => hT _ _ (row_ty h.tab.row hb) (by decide) (by decide)), h.rk, fun k x hx => (h.ok k x hx).to hVb (fun _ h => h), ?_, fun a ha => ?_, ?_, fun j hj => ⟨Nat.lt_of_lt_of_le (h.vs j hj).1 hf.size, fun e => ?_⟩⟩, ⟨hf.mono (fun j _ e => .inr (.inr (.inr (.inr ⟨m, hm, e⟩)))), own', fun _ h => .inl h, rfl⟩⟩
  · show w'.ownsRow 0 _ 1 t.mv (r ++ [(⟨m.g, v', l'⟩ : Mk)]).length (ptrs (r ++ [⟨m.g, v', l'⟩]))
    rw [hp, hl]
    exact row_to h.marks (fun b hb => hT b _ (row_ty h.marks hb) (by decide) (by decide))
  · rcases List.mem_append.1 ha with ha | ha
    · have ha' : a ∈ t.ms := by rw [hms]; exact List.mem_append_left _ ha
      refine (h.mks a ha').to (fun b hb => ?_) (fun _ h => h)
      rcases hb with hb | hb
      · exact hVb b hb
      · refine hf.block b ?_ (fun e => hap.2.2 a ha m (by simp) b hb e)
        rcases hb with rfl | hb
        · exact (h.mks a ha').tab.lt
        · exact (row_ty (h.mks a ha').tab.row hb).lt
    · rw [List.mem_singleton] at ha
      subst ha
      exact ⟨ht, hr, fun k x hx => (hok k x hx).to hVb (fun _ h => h)⟩
  · show (r ++ [(⟨m.g, v', l'⟩ : Mk)]).Pairwise _
    rw [List.pairwise_append]
    refine ⟨hap.1, by simp, fun a ha b hb j hj hj' => ?_⟩
    rw [List.mem_singleton] at hb
    subst hb
    have ha' : a ∈ t.ms := by rw [hms]; exact List.mem_append_left _ ha
    rcases own1 j hj' with e | e
    · exact hap.2.2 a ha m (by simp) j hj e
    · have : j < w.heap.size := by
        rcases hj with rfl | hb
        · exact (h.mks a ha').tab.lt
        · exact (row_ty (h.mks a ha').tab.row hb).lt
      omega
  · rcases own' j e with e | e
    · exact (h.vs j hj).2 e
    · have := (h.vs j hj).1
      omega
end
end Go.Proofs.YtdaooapfokhfcaaGreat

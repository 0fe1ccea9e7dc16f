/-
  Values in memory: a value as a tree, how it lies in a world, which are right, how heavy and how deep they are; no conditions.
  The walk of rising: may these be a record's keys? no conditions but the form's own reach.
-/
import Derived.Test.YtmnbfcpkaglniaaGreatDoorChecked
import Derived.Test.YtmnbfcpkaglniaaGreatDoorS00
import Derived.WalkKit
import Derived.Below
import Derived.Deep.MidRow
import Derived.Deep.Strs
import Derived.Laws.Strings
import Derived.Laws.Cover1
set_option linter.unusedVariables false
set_option linter.unusedSimpArgs false
namespace Go.Proofs.YtmnbfcpkaglniaaGreatDoor
open Go.RowKit
/-- a value -/
structure Vl where
  mk ::
  kind : Int
  n : Int
  s : ByteArray
  l : List Vl
  ks : List ByteArray
/-- what a value's head says of memory, its lists in blocks of P -/
structure VF (w : World) (P : Nat → Prop) (kind n : Int) (s : ByteArray) (l : List Vl) (ks : List ByteArray) (al ak : Option Addr) (cl ck : Nat) (V : Nat → List Value) : Prop where
  bk : -9223372036854775808 ≤ kind ∧ kind ≤ 9223372036854775807
  bn : -9223372036854775808 ≤ n ∧ n ≤ 9223372036854775807
  bs : s.size ≤ 140737488351232
  nl : al = none → l.length = 0 ∧ cl = 0
  nk : ak = none → ks.length = 0 ∧ ck = 0
  ll : l.length ≤ cl
  lk : ks.length ≤ ck
  bl : l.length ≤ 140737488351232
  bc : ks.length ≤ 140737488351232
  bq : 16 * ks.length ≤ 140737488351232
  hl : ∀ a, al = some a → ∀ i, i < l.length → P a.block ∧ ∀ j v, (V i)[j]? = some v → w.cell? ((a.add (i * 5)).add j) = some v
  hv : ∀ i, i < l.length → (V i).length = 5
  hk : ∀ a, ak = some a → ∀ i t, ks[i]? = some t → P a.block ∧ w.cell? (a.add i) = some (.string t)
  bt : ∀ t ∈ ks, t.size ≤ 140737488351232
/-- a head's cells -/
def hd (kind n : Int) (s : ByteArray) (al ak : Option Addr) (ll m cl ck : Nat) : Value := .agg #[.int .i64 kind, .int .i64 n, .string s, .slice al ll cl, .slice ak m ck]
/-- how values lie in memory, one behind the other -/
def IsPL (w : World) (P : Nat → Prop) : List Vl → (Nat → List Value) → Prop
  | [], _ => True
  | .mk kind n s l ks :: r, V => (∃ (al ak : Option Addr) (cl ck : Nat) (V' : Nat → List Value), (.agg (V 0).toArray : Value) = hd kind n s al ak l.length ks.length cl ck ∧ VF w P kind n s l ks al ak cl ck V' ∧ IsPL w P l V') ∧ IsPL w P r (fun i => V (i + 1))
/-- how a value lies in memory, its lists in blocks of P -/
def IsP (w : World) (P : Nat → Prop) (v : Vl) (x : Value) : Prop :=
  ∃ (al ak : Option Addr) (cl ck : Nat) (V : Nat → List Value), x = hd v.kind v.n v.s al ak v.l.length v.ks.length cl ck ∧ VF w P v.kind v.n v.s v.l v.ks al ak cl ck V ∧ IsPL w P v.l V
/-- how a value lies in memory below block B -/
def IsV (w : World) (B : Nat) (v : Vl) (x : Value) : Prop := IsP w (fun b => b < B) v x
theorem IsPL_iff (w : World) (P : Nat → Prop) : ∀ (l : List Vl) (V : Nat → List Value), IsPL w P l V ↔ ∀ i y, l[i]? = some y → IsP w P y (.agg (V i).toArray)
  | [], V => by simp [IsPL]
  | .mk kind n s l ks :: r, V => by
    have ih := IsPL_iff w P r (fun i => V (i + 1))
    simp only [IsPL]
    rw [ih]
    constructor
    · rintro ⟨h1, h2⟩ i y hy
      cases i with
      | zero => simp at hy; subst hy; exact h1
      | succ i => exact h2 i y (by simpa using hy)
    · intro h
      exact ⟨h 0 (.mk kind n s l ks) (by simp), fun i y hy => h (i + 1) y (by simpa using hy)⟩
theorem IsP.inv {w : World} {P : Nat → Prop} {v : Vl} {x : Value} (h : IsP w P v x) : ∃ (kind n : Int) (s : ByteArray) (l : List Vl) (ks : List ByteArray) (al ak : Option Addr) (cl ck : Nat) (V : Nat → List Value), v = .mk kind n s l ks ∧ x = .agg #[.int .i64 kind, .int .i64 n, .string s, .slice al l.length cl, .slice ak ks.length ck] ∧ VF w P kind n s l ks al ak cl ck V ∧ ∀ i y, l[i]? = some y → IsP w P y (.agg (V i).toArray) := by
  obtain ⟨al, ak, cl, ck, V, hx, hf, hl⟩ := h
  cases v with
  | mk kind n s l ks => exact ⟨kind, n, s, l, ks, al, ak, cl, ck, V, rfl, hx, hf, (IsPL_iff w P l V).1 hl⟩
theorem IsP.of {w : World} {P : Nat → Prop} {kind n : Int} {s : ByteArray} {l : List Vl} {ks : List ByteArray} {al ak : Option Addr} {cl ck : Nat} {V : Nat → List Value} (hf : VF w P kind n s l ks al ak cl ck V) (el : ∀ i y, l[i]? = some y → IsP w P y (.agg (V i).toArray)) :
    IsP w P (.mk kind n s l ks) (.agg #[.int .i64 kind, .int .i64 n, .string s, .slice al l.length cl, .slice ak ks.length ck]) :=
  ⟨al, ak, cl, ck, V, rfl, hf, (IsPL_iff w P l V).2 el⟩
theorem IsV.inv {w : World} {B : Nat} {v : Vl} {x : Value} (h : IsV w B v x) : ∃ (kind n : Int) (s : ByteArray) (l : List Vl) (ks : List ByteArray) (al ak : Option Addr) (cl ck : Nat) (V : Nat → List Value), v = .mk kind n s l ks ∧ x = .agg #[.int .i64 kind, .int .i64 n, .string s, .slice al l.length cl, .slice ak ks.length ck] ∧ VF w (fun b => b < B) kind n s l ks al ak cl ck V ∧ ∀ i y, l[i]? = some y → IsV w B y (.agg (V i).toArray) := IsP.inv h
/-- a value whose head is written out -/
theorem IsP.at {w : World} {P : Nat → Prop} {kind n : Int} {s : ByteArray} {l : List Vl} {ks : List ByteArray} {k' n' : Int} {s' : ByteArray} {al ak : Option Addr} {ll m cl ck : Nat} (h : IsP w P (.mk kind n s l ks) (.agg #[.int .i64 k', .int .i64 n', .string s', .slice al ll cl, .slice ak m ck])) :
    k' = kind ∧ n' = n ∧ s' = s ∧ ll = l.length ∧ m = ks.length ∧ ∃ V, VF w P kind n s l ks al ak cl ck V ∧ ∀ i y, l[i]? = some y → IsP w P y (.agg (V i).toArray) := by
  obtain ⟨_, _, _, _, _, al', ak', cl', ck', V, hv, hx, hf, el⟩ := h.inv
  cases hv
  simp only [Value.agg.injEq, Array.mk.injEq, List.cons.injEq, Value.int.injEq, Value.string.injEq, Value.slice.injEq, and_true, true_and] at hx
  obtain ⟨rfl, rfl, rfl, ⟨rfl, rfl, rfl⟩, rfl, rfl, rfl⟩ := hx
  exact ⟨rfl, rfl, rfl, rfl, rfl, V, hf, el⟩
theorem block_add (a : Addr) (j : Nat) : (a.add j).block = a.block := by unfold Addr.add; split <;> rfl
theorem VF.to {w w' : World} {P Q : Nat → Prop} (hw : ∀ b, P b → w'.heap[b]? = w.heap[b]?) (hP : ∀ b, P b → Q b) {kind n : Int} {s : ByteArray} {l : List Vl} {ks : List ByteArray} {al ak : Option Addr} {cl ck : Nat} {V : Nat → List Value} (h : VF w P kind n s l ks al ak cl ck V) : VF w' Q kind n s l ks al ak cl ck V where
  bk := h.bk
  bn := h.bn
  bs := h.bs
  nl := h.nl
  nk := h.nk
  ll := h.ll
  lk := h.lk
  bl := h.bl
  bc := h.bc
  bq := h.bq
  hl := fun a ha i hi => ⟨hP _ (h.hl a ha i hi).1, fun j u hu => by
    have e : w'.cell? ((a.add (i * 5)).add j) = w.cell? ((a.add (i * 5)).add j) := World.cell?_of_block (by rw [block_add, block_add]; exact hw _ (h.hl a ha i hi).1)
    rw [e]
    exact (h.hl a ha i hi).2 j u hu⟩
  hv := h.hv
  hk := fun a ha i t ht => ⟨hP _ (h.hk a ha i t ht).1, by
    have e : w'.cell? (a.add i) = w.cell? (a.add i) := World.cell?_of_block (by rw [block_add]; exact hw _ (h.hk a ha i t ht).1)
    rw [e]
    exact (h.hk a ha i t ht).2⟩
  bt := h.bt
theorem IsPL.to {w w' : World} {P Q : Nat → Prop} (hw : ∀ b, P b → w'.heap[b]? = w.heap[b]?) (hP : ∀ b, P b → Q b) : ∀ (l : List Vl) (V : Nat → List Value), IsPL w P l V → IsPL w' Q l V
  | [], V, _ => by simp only [IsPL]
  | .mk kind n s l ks :: r, V, h => by
    simp only [IsPL] at h ⊢
    obtain ⟨⟨al, ak, cl, ck, V', hx, hf, hl⟩, hr⟩ := h
    exact ⟨⟨al, ak, cl, ck, V', hx, hf.to hw hP, IsPL.to hw hP l V' hl⟩, IsPL.to hw hP r _ hr⟩
theorem IsP.to {w w' : World} {P Q : Nat → Prop} (hw : ∀ b, P b → w'.heap[b]? = w.heap[b]?) (hP : ∀ b, P b → Q b) {v : Vl} {x : Value} (h : IsP w P v x) : IsP w' Q v x := by
  obtain ⟨al, ak, cl, ck, V, hx, hf, hl⟩ := h
  exact ⟨al, ak, cl, ck, V, hx, hf.to hw hP, IsPL.to hw hP v.l V hl⟩
theorem IsP.weak {w : World} {P Q : Nat → Prop} (hP : ∀ b, P b → Q b) {v : Vl} {x : Value} (h : IsP w P v x) : IsP w Q v x := h.to (fun _ _ => rfl) hP
theorem IsP.move {w w' : World} {P : Nat → Prop} (hw : ∀ b, P b → w'.heap[b]? = w.heap[b]?) {v : Vl} {x : Value} (h : IsP w P v x) : IsP w' P v x := h.to hw (fun _ h => h)
theorem IsP.isV {w : World} {P : Nat → Prop} {B : Nat} (hP : ∀ b, P b → b < B) {v : Vl} {x : Value} (h : IsP w P v x) : IsV w B v x := IsP.weak hP h
theorem IsV.mono {w w' : World} {B : Nat} (hb : Below B w w') {v : Vl} {x : Value} (h : IsV w B v x) : IsV w' B v x := IsP.move (fun b hl => hb.block b hl) h
theorem IsV.lift {w : World} {B C : Nat} (hBC : B ≤ C) {v : Vl} {x : Value} (h : IsV w B v x) : IsV w C v x := IsP.weak (fun _ hl => Nat.lt_of_lt_of_le hl hBC) h
theorem IsP.shape {w : World} {P : Nat → Prop} {y : Vl} {x : Value} (h : IsP w P y x) : ∃ kind n s l ks al ak cl ck, y = .mk kind n s l ks ∧ x = .agg #[.int .i64 kind, .int .i64 n, .string s, .slice al l.length cl, .slice ak ks.length ck] := by
  obtain ⟨kind, n, s, l, ks, al, ak, cl, ck, _, h1, h2, _⟩ := h.inv
  exact ⟨kind, n, s, l, ks, al, ak, cl, ck, h1, h2⟩
theorem IsV.shape {w : World} {B : Nat} {y : Vl} {x : Value} (h : IsV w B y x) : ∃ kind n s l ks al ak cl ck, y = .mk kind n s l ks ∧ x = .agg #[.int .i64 kind, .int .i64 n, .string s, .slice al l.length cl, .slice ak ks.length ck] := IsP.shape h
/-- a value that was put into a block of its own -/
structure Box (w w1 : World) (x0 x1 x2 x3 x4 : Value) : Prop where
  row : w1.heap[w.heap.size]? = some (.cells #[x0, x1, x2, x3, x4] 29 (0, 0))
  size : w1.heap.size = w.heap.size + 1
  below : Below w.heap.size w w1
theorem Box.mk' (w : World) (x0 x1 x2 x3 x4 : Value) : Box w (w.alloc (.cells #[x0, x1, x2, x3, x4] 29)) x0 x1 x2 x3 x4 :=
  ⟨heap_alloc_new w _, by simp, (Below.refl _ _).alloc (Nat.le_refl _) _⟩
theorem row_cell {w : World} {g : Nat} {x0 x1 x2 x3 x4 : Value} (h : w.heap[g]? = some (.cells #[x0, x1, x2, x3, x4] 29 (0, 0))) :
    w.cell? ⟨g, 0, none⟩ = some x0 ∧ w.cell? ⟨g, 1, none⟩ = some x1 ∧ w.cell? ⟨g, 2, none⟩ = some x2 ∧ w.cell? ⟨g, 3, none⟩ = some x3 ∧ w.cell? ⟨g, 4, none⟩ = some x4 :=
  ⟨by rw [cell_of_row w g 0 _ _ (0, 0) h]; rfl, by rw [cell_of_row w g 1 _ _ (0, 0) h]; rfl, by rw [cell_of_row w g 2 _ _ (0, 0) h]; rfl, by rw [cell_of_row w g 3 _ _ (0, 0) h]; rfl, by rw [cell_of_row w g 4 _ _ (0, 0) h]; rfl⟩
/-! ### The order of bytes -/
theorem bl_not : ∀ (a b : List UInt8), Op.bytesLess a b = !(Op.bytesLess b a || b == a)
  | [], [] => by simp [Op.bytesLess]
  | [], b :: y => by simp [Op.bytesLess]
  | a :: x, [] => by simp [Op.bytesLess]
  | a :: x, b :: y => by
    have ih := bl_not x y
    simp only [Op.bytesLess, List.cons_beq_cons]
    rcases (show a.toNat < b.toNat ∨ a.toNat = b.toNat ∨ b.toNat < a.toNat by omega) with h | h | h
    · have h1 : a < b := UInt8.lt_iff_toNat_lt.2 h
      have h2 : ¬ b < a := fun e => by have := UInt8.lt_iff_toNat_lt.1 e; omega
      have h3 : ¬ b = a := fun e => by rw [e] at h; omega
      simp [h1, h2, h3]
    · obtain rfl : a = b := UInt8.toNat_inj.1 h
      have h2 : ¬ a < a := fun e => by have := UInt8.lt_iff_toNat_lt.1 e; omega
      simp [h2, ih]
    · have h1 : b < a := UInt8.lt_iff_toNat_lt.2 h
      have h2 : ¬ a < b := fun e => by have := UInt8.lt_iff_toNat_lt.1 e; omega
      have h3 : ¬ a = b := fun e => by rw [e] at h; omega
      simp [h1, h2, h3]
/-! ### Which are right, how heavy, how deep -/
/-- keys that may be a record's, behind a key -/
def risingFrom (p : Option ByteArray) : List ByteArray → Bool
  | [] => true
  | t :: r => decide (t.size ≤ 32) && (match p with | none => true | some q => Op.bytesLess q.toList t.toList) && risingFrom (some t) r
def formM (kind n : Int) (s : ByteArray) (ll m : Nat) (R : Bool) : Bool :=
  if kind = 0 then decide (n = 0) && s.toList.isEmpty && decide (ll = 0) && decide (m = 0)
  else if kind = 1 then (decide (n = 0) || decide (n = 1)) && s.toList.isEmpty && decide (ll = 0) && decide (m = 0)
  else if kind = 2 then s.toList.isEmpty && decide (ll = 0) && decide (m = 0)
  else if kind = 3 then decide (n = 0) && decide (ll = 0) && decide (m = 0)
  else if kind = 4 then decide (n = 0) && s.toList.isEmpty && decide (m = 0)
  else if kind = 5 then decide (n = 0) && s.toList.isEmpty && decide (m = ll) && R
  else false
def formB (kind n : Int) (s : ByteArray) (ll : Nat) (ks : List ByteArray) : Bool := formM kind n s ll ks.length (risingFrom none ks)
theorem formB_is (kind n : Int) (s : ByteArray) (ll : Nat) (ks : List ByteArray) : formB kind n s ll ks = formM kind n s ll ks.length (risingFrom none ks) := rfl
/-- what keys weigh -/
def keysW : List ByteArray → Nat
  | [] => 0
  | t :: r => 1 + t.size + keysW r
def wtL : List Vl → Nat
  | [] => 0
  | .mk _ _ s l ks :: r => (1 + s.size + keysW ks + wtL l) + wtL r
def wt : Vl → Nat
  | .mk _ _ s l ks => 1 + s.size + keysW ks + wtL l
theorem wtL_nil : wtL [] = 0 := by simp only [wtL]
theorem wtL_cons (x : Vl) (r : List Vl) : wtL (x :: r) = wt x + wtL r := by cases x; simp only [wtL, wt]
def depL : List Vl → Nat
  | [] => 0
  | .mk _ _ _ l _ :: r => max (1 + depL l) (depL r)
def dep : Vl → Nat
  | .mk _ _ _ l _ => 1 + depL l
theorem depL_nil : depL [] = 0 := by simp only [depL]
theorem depL_cons (x : Vl) (r : List Vl) : depL (x :: r) = max (dep x) (depL r) := by cases x; simp only [depL, dep]
def okL : Nat → List Vl → Bool
  | _, [] => true
  | 0, _ :: _ => false
  | b + 1, .mk kind n s l ks :: r => (formB kind n s l.length ks && okL b l) && okL (b + 1) r
def okB : Nat → Vl → Bool
  | 0, _ => false
  | b + 1, .mk kind n s l ks => formB kind n s l.length ks && okL b l
theorem okL_nil (b : Nat) : okL b [] = true := by simp only [okL]
theorem okL_cons (b : Nat) (x : Vl) (r : List Vl) : okL b (x :: r) = (okB b x && okL b r) := by
  cases x
  cases b <;> simp only [okL, okB, Bool.false_and]
theorem wtL_app (a b : List Vl) : wtL (a ++ b) = wtL a + wtL b := by
  induction a with
  | nil => simp [wtL_nil]
  | cons x r ih => simp [wtL_cons, ih]; omega
theorem depL_app (a b : List Vl) : depL (a ++ b) = max (depL a) (depL b) := by
  induction a with
  | nil => simp [depL_nil]
  | cons x r ih => simp [depL_cons, ih, Nat.max_assoc]
theorem okL_app (n : Nat) (a b : List Vl) : okL n (a ++ b) = (okL n a && okL n b) := by
  induction a with
  | nil => simp [okL_nil]
  | cons x r ih => simp [okL_cons, ih, Bool.and_assoc]
theorem wtL_next (l : List Vl) (i : Nat) (x : Vl) (h : l[i]? = some x) : wtL (l.take (i + 1)) = wtL (l.take i) + wt x := by
  obtain ⟨hi, rfl⟩ := List.getElem?_eq_some_iff.1 h
  rw [List.take_succ_eq_append_getElem hi, wtL_app, wtL_cons, wtL_nil, Nat.add_zero]
theorem depL_next (l : List Vl) (i : Nat) (x : Vl) (h : l[i]? = some x) : depL (l.take (i + 1)) = max (depL (l.take i)) (dep x) := by
  obtain ⟨hi, rfl⟩ := List.getElem?_eq_some_iff.1 h
  rw [List.take_succ_eq_append_getElem hi, depL_app, depL_cons, depL_nil, Nat.max_zero]
theorem okL_next (n : Nat) (l : List Vl) (i : Nat) (x : Vl) (h : l[i]? = some x) : okL n (l.take (i + 1)) = (okL n (l.take i) && okB n x) := by
  obtain ⟨hi, rfl⟩ := List.getElem?_eq_some_iff.1 h
  rw [List.take_succ_eq_append_getElem hi, okL_app, okL_cons, okL_nil, Bool.and_true]
theorem wtL_take_le (l : List Vl) (i : Nat) : wtL (l.take i) ≤ wtL l := by
  have h := wtL_app (l.take i) (l.drop i)
  rw [List.take_append_drop] at h
  omega
theorem okL_all (n : Nat) (l : List Vl) (h : okL n l = true) : ∀ x ∈ l, okB n x = true := by
  induction l with
  | nil => intro x hx; cases hx
  | cons y r ih =>
    intro x hx
    rw [okL_cons, Bool.and_eq_true] at h
    rcases List.mem_cons.1 hx with rfl | hx
    · exact h.1
    · exact ih h.2 x hx
theorem okL_of_take (n : Nat) (l : List Vl) (i : Nat) (x : Vl) (h : l[i]? = some x) (hx : okB n x = false) : okL n l = false := by
  cases ho : okL n l with
  | false => rfl
  | true =>
    have := okL_all n l ho x (List.mem_of_getElem? h)
    rw [hx] at this
    cases this
theorem wt_pos (v : Vl) : 0 < wt v := by cases v; simp [wt]; omega
theorem wt_le_wtL (l : List Vl) (i : Nat) (x : Vl) (h : l[i]? = some x) : wtL (l.take i) + wt x ≤ wtL l := by
  have := wtL_take_le l (i + 1)
  rw [wtL_next l i x h] at this
  exact this
/-- keys in memory -/
structure IsK (w : World) (ks : List ByteArray) (ak : Option Addr) (ck : Nat) : Prop where
  none : ak = none → ks.length = 0
  len : ks.length ≤ ck
  bnd : ks.length ≤ 140737488351232
  cell : ∀ a, ak = some a → ∀ i t, ks[i]? = some t → w.cell? (a.add i) = some (.string t)
  small : ∀ t ∈ ks, t.size ≤ 140737488351232
theorem IsK.mono {w w' : World} {ks : List ByteArray} {ak : Option Addr} {ck : Nat} (h : IsK w ks ak ck) (hb : Below w.heap.size w w') : IsK w' ks ak ck :=
  ⟨h.none, h.len, h.bnd, fun a ha i t ht => by
    have h1 := h.cell a ha i t ht
    rw [hb.cell (World.block_lt_of_cell? _ _ (by rw [h1]))]
    exact h1, h.small⟩
theorem add_pos (a : Addr) {i : Nat} (h : ¬ i = 0) : a.add i = ⟨a.block, a.off + i, none⟩ := by unfold Addr.add; rw [if_neg h]
theorem drop_cons {ks : List ByteArray} {i : Nat} {t : ByteArray} (h : ks[i]? = some t) : ks.drop i = t :: ks.drop (i + 1) := by
  obtain ⟨hi, rfl⟩ := List.getElem?_eq_some_iff.1 h
  exact List.drop_eq_getElem_cons hi
set_option maxRecDepth 100000 in
set_option maxHeartbeats 400000 in
theorem rising_any (ks : List ByteArray) (ak : Option Addr) (ck : Nat) (w : World) (h : IsK w ks ak ck) :
    Calls Tryz.prog 156 #[.slice ak ks.length ck] w fun e w' => e = .returned (.bool (risingFrom none ks)) ∧ w' = w := by
  have hn := h.len
  have hb := h.bnd
  have HH := hide h
  clear h
  obtain ⟨n, hnn⟩ : ∃ n, ks.length = n := ⟨_, rfl⟩
  rw [hnn] at hn hb ⊢
  have HN := hide hnn
  clear hnn
  go_enter Tryz.func156, Tryz.ntmps156
  go_wp2_with fail
  go_loopw [7] (fun x wr => ∃ i : Nat, i ≤ n ∧ x = .int .i64 i ∧ wr = w ∧ Hid (risingFrom none ks = risingFrom (if i = 0 then none else ks[i - 1]?) (ks.drop i))) (fun x _ => n - (intOf x).toNat)
  case atStart => exact ⟨0, by omega, rfl, rfl, hide (by simp)⟩
  case round =>
    obtain ⟨i, hi, rfl, rfl, HR⟩ := hrel
    by_cases hlt : i < n
    · have hln := unhide HN
      obtain ⟨t, ht⟩ : ∃ t, ks[i]? = some t := ⟨_, List.getElem?_eq_getElem (by omega)⟩
      obtain ⟨a, rfl⟩ : ∃ a, ak = some a := by
        cases ak with
        | none => have := (unhide HH).none rfl; omega
        | some a => exact ⟨a, rfl⟩
      have c1 := (unhide HH).cell a rfl i t ht
      have ts := (unhide HH).small t (List.mem_of_getElem? ht)
      have HT := hide ht
      clear hln ht
      by_cases h32 : t.size ≤ 32
      · by_cases h0 : i = 0
        · subst h0
          have c0 : wr.cell? a = some (.string t) := c1
          clear c1
          have HR' : Hid (risingFrom none ks = risingFrom (if 1 = 0 then none else ks[1 - 1]?) (ks.drop 1)) := hide (by
            rw [unhide HR, drop_cons (unhide HT)]
            have e := unhide HT
            simp [risingFrom, h32, e])
          go_wp2_with fail
          go_roundw
          case rel => exact ⟨1, by omega, by go_num, trivial, HR'⟩
          case measure => simp [intOf]; omega
        · obtain ⟨k, hk⟩ : ∃ k, i = k + 1 := ⟨i - 1, by omega⟩
          obtain ⟨q, hq⟩ : ∃ q, ks[k]? = some q := ⟨_, List.getElem?_eq_getElem (by have := unhide HN; omega)⟩
          have c2 := (unhide HH).cell a rfl k q hq
          have k1 : (i : Int) - 1 = (k : Int) := by omega
          have k2 : IntKind.i64.wrap ((i : Int) - 1) = (k : Int) := by rw [IntKind.wrap_i64]; omega
          have k3 : (0 : Int) < (i : Int) := by omega
          have k4 : (k : Int) < (n : Int) := by omega
          have HQ := hide (And.intro hq hk)
          clear hq hk
          have hstep : risingFrom none ks = (Op.bytesLess q.toList t.toList && risingFrom (some t) (ks.drop (i + 1))) := by
            rw [unhide HR, drop_cons (unhide HT), if_neg h0, show i - 1 = k by have := (unhide HQ).2; omega, (unhide HQ).1]
            simp [risingFrom, h32]
          have HS := hide hstep
          clear hstep
          by_cases hbl : Op.bytesLess q.toList t.toList = true
          · have HR' : Hid (risingFrom none ks = risingFrom (if i + 1 = 0 then none else ks[i + 1 - 1]?) (ks.drop (i + 1))) := hide (by
              rw [unhide HS, hbl, if_neg (by omega), show i + 1 - 1 = i by omega, unhide HT]
              simp)
            go_wp2_with fail
            go_roundw
            case rel => exact ⟨i + 1, by omega, by go_num, trivial, HR'⟩
            case measure => simp [intOf]; omega
          · have hbl' : Op.bytesLess q.toList t.toList = false := by simpa using hbl
            have HF : Hid (risingFrom none ks = false) := hide (by rw [unhide HS, hbl']; rfl)
            clear hbl
            go_wp2_with fail
            go_ret
            exact ⟨by rw [unhide HF]; rfl, rfl⟩
      · have hfin : risingFrom none ks = false := by
          rw [unhide HR, drop_cons (unhide HT)]
          simp [risingFrom, h32]
        have HF := hide hfin
        clear hfin
        go_wp2_with fail
        go_ret
        exact ⟨by rw [unhide HF]; rfl, rfl⟩
    · have hfin : risingFrom none ks = true := by
        rw [unhide HR, List.drop_eq_nil_of_le (by have := unhide HN; omega)]
        rfl
      have HF := hide hfin
      clear hfin
      go_wp2_with fail
      go_ret
      exact ⟨by rw [unhide HF]; rfl, rfl⟩
end Go.Proofs.YtmnbfcpkaglniaaGreatDoor

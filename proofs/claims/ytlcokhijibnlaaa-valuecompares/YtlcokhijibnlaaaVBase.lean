/-
  Values in memory: a value as a tree, how it lies in a world, which are right, how heavy and how deep they are; no conditions.
-/
import Derived.Test.YtlcokhijibnlaaaChecked
import Derived.Test.YtlcokhijibnlaaaHid
import Derived.WalkKit
import Derived.Below
import Derived.Deep.MidRow
import Derived.Deep.Strs
import Derived.Laws.Strings
import Derived.Laws.Cover1
namespace Go.Proofs.Ytlcokhijibnlaaa
open Go.RowKit


/-- a value -/
inductive Vl where
  | mk (kind n : Int) (s : ByteArray) (l : List Vl) (ks : List ByteArray)

/-- how a value lies in memory below block B -/
inductive IsV (w : World) (B : Nat) : Vl → Value → Prop
  | mk (kind n : Int) (s : ByteArray) (l : List Vl) (ks : List ByteArray) (al ak : Option Addr) (cl ck : Nat) (V : Nat → List Value)
      (bk : -9223372036854775808 ≤ kind ∧ kind ≤ 9223372036854775807) (bn : -9223372036854775808 ≤ n ∧ n ≤ 9223372036854775807) (bs : s.size ≤ 140737488351232)
      (nl : al = none → l.length = 0 ∧ cl = 0) (nk : ak = none → ks.length = 0 ∧ ck = 0) (ll : l.length ≤ cl) (lk : ks.length ≤ ck) (bl : cl ≤ 140737488351232) (bc : ck ≤ 140737488351232) (bq : 16 * ks.length ≤ 140737488351232)
      (hl : ∀ a, al = some a → ∀ i, i < l.length → a.block < B ∧ ∀ j v, (V i)[j]? = some v → w.cell? ((a.add (i * 5)).add j) = some v)
      (hv : ∀ i, i < l.length → (V i).length = 5)
      (hk : ∀ a, ak = some a → ∀ i t, ks[i]? = some t → a.block < B ∧ w.cell? (a.add i) = some (.string t))
      (bt : ∀ t ∈ ks, t.size ≤ 140737488351232)
      (el : ∀ i x, l[i]? = some x → IsV w B x (.agg (V i).toArray)) :
      IsV w B (.mk kind n s l ks) (.agg #[.int .i64 kind, .int .i64 n, .string s, .slice al l.length cl, .slice ak ks.length ck])

theorem block_add (a : Addr) (j : Nat) : (a.add j).block = a.block := by unfold Addr.add; split <;> rfl

theorem IsV.mono {w w' : World} {B : Nat} (hb : Below B w w') : ∀ {v : Vl} {x : Value}, IsV w B v x → IsV w' B v x := by
  intro v x h
  induction h with
  | mk kind n s l ks al ak cl ck V bk bn bs nl nk ll lk bl bc bq hl hv hk bt el ih =>
    refine IsV.mk kind n s l ks al ak cl ck V bk bn bs nl nk ll lk bl bc bq ?_ hv ?_ bt ih
    · intro a ha i hi
      refine ⟨(hl a ha i hi).1, fun j u hu => ?_⟩
      rw [hb.cell (by rw [block_add, block_add]; exact (hl a ha i hi).1)]
      exact (hl a ha i hi).2 j u hu
    · intro a ha i t ht
      refine ⟨(hk a ha i t ht).1, ?_⟩
      rw [hb.cell (by rw [block_add]; exact (hk a ha i t ht).1)]
      exact (hk a ha i t ht).2

theorem IsV.lift {w : World} {B C : Nat} (hBC : B ≤ C) : ∀ {v : Vl} {x : Value}, IsV w B v x → IsV w C v x := by
  intro v x h
  induction h with
  | mk kind n s l ks al ak cl ck V bk bn bs nl nk ll lk bl bc bq hl hv hk bt el ih =>
    exact IsV.mk kind n s l ks al ak cl ck V bk bn bs nl nk ll lk bl bc bq (fun a ha i hi => ⟨Nat.lt_of_lt_of_le (hl a ha i hi).1 hBC, (hl a ha i hi).2⟩) hv (fun a ha i t ht => ⟨Nat.lt_of_lt_of_le (hk a ha i t ht).1 hBC, (hk a ha i t ht).2⟩) bt ih

/-- a value that was put into a block of its own -/
structure Box (w w1 : World) (x0 x1 x2 x3 x4 : Value) : Prop where
  row : w1.heap[w.heap.size]? = some (.cells #[x0, x1, x2, x3, x4] 25 (0, 0))
  size : w1.heap.size = w.heap.size + 1
  below : Below w.heap.size w w1

theorem Box.mk' (w : World) (x0 x1 x2 x3 x4 : Value) : Box w (w.alloc (.cells #[x0, x1, x2, x3, x4] 25)) x0 x1 x2 x3 x4 :=
  ⟨heap_alloc_new w _, by simp, (Below.refl _ _).alloc (Nat.le_refl _) _⟩

theorem row_cell {w : World} {g : Nat} {x0 x1 x2 x3 x4 : Value} (h : w.heap[g]? = some (.cells #[x0, x1, x2, x3, x4] 25 (0, 0))) :
    w.cell? ⟨g, 0, none⟩ = some x0 ∧ w.cell? ⟨g, 1, none⟩ = some x1 ∧ w.cell? ⟨g, 2, none⟩ = some x2 ∧ w.cell? ⟨g, 3, none⟩ = some x3 ∧ w.cell? ⟨g, 4, none⟩ = some x4 :=
  ⟨by rw [cell_of_row w g 0 _ _ (0, 0) h]; rfl, by rw [cell_of_row w g 1 _ _ (0, 0) h]; rfl, by rw [cell_of_row w g 2 _ _ (0, 0) h]; rfl, by rw [cell_of_row w g 3 _ _ (0, 0) h]; rfl, by rw [cell_of_row w g 4 _ _ (0, 0) h]; rfl⟩

/-! ### The order of bytes -/
theorem bl_not : ∀ (a b : List UInt8), Op.bytesLess a b = !(Op.bytesLess b a || b == a)
  | [], [] => by simp [Op.bytesLess]
  | [], b :: y => by simp [Op.bytesLess]
  | a :: x, [] => by simp [Op.bytesLess]
  | a :: x, b :: y => by
    have ih := bl_not x y
    simp only [Op.bytesLess, List.cons_beq_cons]
    rcases (show a.toNat < b.toNat ∨ a.toNat = b.toNat ∨ b.toNat < a.toNat by omega) with h | h | h
    · have h1 : a < b := UInt8.lt_iff_toNat_lt.2 h
      have h2 : ¬ b < a := fun e => by have := UInt8.lt_iff_toNat_lt.1 e; omega
      have h3 : ¬ b = a := fun e => by rw [e] at h; omega
      simp [h1, h2, h3]
    · obtain rfl : a = b := UInt8.toNat_inj.1 h
      have h2 : ¬ a < a := fun e => by have := UInt8.lt_iff_toNat_lt.1 e; omega
      simp [h2, ih]
    · have h1 : b < a := UInt8.lt_iff_toNat_lt.2 h
      have h2 : ¬ a < b := fun e => by have := UInt8.lt_iff_toNat_lt.1 e; omega
      have h3 : ¬ a = b := fun e => by rw [e] at h; omega
      simp [h1, h2, h3]

/-! ### Which are right, how heavy, how deep -/

/-- keys that may be a record's, behind a key -/
def risingFrom (p : Option ByteArray) : List ByteArray → Bool
  | [] => true
  | t :: r => decide (t.size ≤ 32) && (match p with | none => true | some q => Op.bytesLess q.toList t.toList) && risingFrom (some t) r

def formM (kind n : Int) (s : ByteArray) (ll m : Nat) (R : Bool) : Bool :=
  if kind = 0 then decide (n = 0) && s.toList.isEmpty && decide (ll = 0) && decide (m = 0)
  else if kind = 1 then (decide (n = 0) || decide (n = 1)) && s.toList.isEmpty && decide (ll = 0) && decide (m = 0)
  else if kind = 2 then s.toList.isEmpty && decide (ll = 0) && decide (m = 0)
  else if kind = 3 then decide (n = 0) && decide (ll = 0) && decide (m = 0)
  else if kind = 4 then decide (n = 0) && s.toList.isEmpty && decide (m = 0)
  else if kind = 5 then decide (n = 0) && s.toList.isEmpty && decide (m = ll) && R
  else false

def formB (kind n : Int) (s : ByteArray) (ll : Nat) (ks : List ByteArray) : Bool := formM kind n s ll ks.length (risingFrom none ks)

theorem formB_is (kind n : Int) (s : ByteArray) (ll : Nat) (ks : List ByteArray) : formB kind n s ll ks = formM kind n s ll ks.length (risingFrom none ks) := rfl

/-- what keys weigh -/
def keysW : List ByteArray → Nat
  | [] => 0
  | t :: r => 1 + t.size + keysW r

mutual
def wt : Vl → Nat
  | .mk _ _ s l ks => 1 + s.size + keysW ks + wtL l
def wtL : List Vl → Nat
  | [] => 0
  | x :: r => wt x + wtL r
end

mutual
def dep : Vl → Nat
  | .mk _ _ _ l _ => 1 + depL l
def depL : List Vl → Nat
  | [] => 0
  | x :: r => max (dep x) (depL r)
end

mutual
def okB : Nat → Vl → Bool
  | 0, _ => false
  | b + 1, .mk kind n s l ks => formB kind n s l.length ks && okL b l
def okL : Nat → List Vl → Bool
  | _, [] => true
  | b, x :: r => okB b x && okL b r
end

theorem wtL_app (a b : List Vl) : wtL (a ++ b) = wtL a + wtL b := by
  induction a with
  | nil => simp [wtL]
  | cons x r ih => simp [wtL, ih]; omega

theorem depL_app (a b : List Vl) : depL (a ++ b) = max (depL a) (depL b) := by
  induction a with
  | nil => simp [depL]
  | cons x r ih => simp [depL, ih, Nat.max_assoc]

theorem okL_app (n : Nat) (a b : List Vl) : okL n (a ++ b) = (okL n a && okL n b) := by
  induction a with
  | nil => simp [okL]
  | cons x r ih => simp [okL, ih, Bool.and_assoc]

theorem wtL_next (l : List Vl) (i : Nat) (x : Vl) (h : l[i]? = some x) : wtL (l.take (i + 1)) = wtL (l.take i) + wt x := by
  obtain ⟨hi, rfl⟩ := List.getElem?_eq_some_iff.1 h
  rw [List.take_succ_eq_append_getElem hi, wtL_app]
  simp [wtL]

theorem depL_next (l : List Vl) (i : Nat) (x : Vl) (h : l[i]? = some x) : depL (l.take (i + 1)) = max (depL (l.take i)) (dep x) := by
  obtain ⟨hi, rfl⟩ := List.getElem?_eq_some_iff.1 h
  rw [List.take_succ_eq_append_getElem hi, depL_app]
  simp [depL]

theorem okL_next (n : Nat) (l : List Vl) (i : Nat) (x : Vl) (h : l[i]? = some x) : okL n (l.take (i + 1)) = (okL n (l.take i) && okB n x) := by
  obtain ⟨hi, rfl⟩ := List.getElem?_eq_some_iff.1 h
  rw [List.take_succ_eq_append_getElem hi, okL_app]
  simp [okL]

theorem wtL_take_le (l : List Vl) (i : Nat) : wtL (l.take i) ≤ wtL l := by
  have h := wtL_app (l.take i) (l.drop i)
  rw [List.take_append_drop] at h
  omega

theorem okL_all (n : Nat) (l : List Vl) (h : okL n l = true) : ∀ x ∈ l, okB n x = true := by
  induction l with
  | nil => intro x hx; cases hx
  | cons y r ih =>
    intro x hx
    simp [okL] at h
    rcases List.mem_cons.1 hx with rfl | hx
    · exact h.1
    · exact ih h.2 x hx

theorem okL_of_take (n : Nat) (l : List Vl) (i : Nat) (x : Vl) (h : l[i]? = some x) (hx : okB n x = false) : okL n l = false := by
  cases ho : okL n l with
  | false => rfl
  | true =>
    have := okL_all n l ho x (List.mem_of_getElem? h)
    rw [hx] at this
    cases this

theorem wt_pos (v : Vl) : 0 < wt v := by cases v; simp [wt]; omega

theorem wt_le_wtL (l : List Vl) (i : Nat) (x : Vl) (h : l[i]? = some x) : wtL (l.take i) + wt x ≤ wtL l := by
  have := wtL_take_le l (i + 1)
  rw [wtL_next l i x h] at this
  exact this
end Go.Proofs.Ytlcokhijibnlaaa

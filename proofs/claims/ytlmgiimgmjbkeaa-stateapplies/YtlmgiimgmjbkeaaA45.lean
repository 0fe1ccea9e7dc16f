/-
  Rows of k cells in one block: read, written over one by one, made, copied; no conditions.
  Entries that were lent: a list of their own, with marks behind; how it lies in memory; no conditions.
-/
import Derived.Test.YtlmgiimgmjbkeaaA00
import Derived.Test.YtlmgiimgmjbkeaaA02
import Derived.Laws.CopyRow
import Derived.Laws.CopyOwn
import Derived.Laws.MakeOwn
import Derived.Test.YtlmgiimgmjbkeaaA28
import Derived.Test.YtlmgiimgmjbkeaaA29
set_option linter.unusedVariables false
set_option linter.unusedSimpArgs false
namespace Go.Proofs.Ytlmgiimgmjbkeaa
open Go.RowKit
set_option linter.unusedVariables false
set_option linter.unusedSimpArgs false

theorem addK (a : Addr) (x y : Nat) : (a.add x).add y = a.add (x + y) := by
  unfold Addr.add
  by_cases hx : x = 0
  · subst hx; simp
  · by_cases hy : y = 0
    · subst hy; simp
    · have h : x + y ≠ 0 := by omega
      simp [hx, hy, h, Nat.add_assoc]

theorem addK0 (g x : Nat) : (⟨g, 0, none⟩ : Addr).add x = ⟨g, x, none⟩ := by
  unfold Addr.add
  by_cases hx : x = 0
  · subst hx; simp
  · simp [hx]

theorem flatkR_len (k : Nat) : ∀ (R : List (List Value)), (∀ r ∈ R, r.length = k) → R.flatten.length = R.length * k
  | [], _ => by simp
  | r :: R, h => by
    rw [List.flatten_cons, List.length_append, h r List.mem_cons_self, flatkR_len k R (fun x hx => h x (List.mem_cons_of_mem _ hx)), List.length_cons, Nat.succ_mul, Nat.add_comm]

theorem flatkR_at (k : Nat) : ∀ (R : List (List Value)), (∀ r ∈ R, r.length = k) → ∀ (i : Nat) (r : List Value), R[i]? = some r → ∀ (j : Nat) (v : Value), r[j]? = some v → R.flatten[i * k + j]? = some v
  | [], _, i, r, h, _, _, _ => by simp at h
  | x :: R, hR, 0, r, h, j, v, hv => by
    simp at h
    subst h
    rw [Nat.zero_mul, Nat.zero_add, List.flatten_cons, List.getElem?_append_left (List.getElem?_eq_some_iff.1 hv).1]
    exact hv
  | x :: R, hR, i + 1, r, h, j, v, hv => by
    have hx := hR x List.mem_cons_self
    rw [List.flatten_cons, List.getElem?_append_right (by rw [hx, Nat.succ_mul]; omega), hx, show (i + 1) * k + j - k = i * k + j by rw [Nat.succ_mul]; omega]
    exact flatkR_at k R (fun y hy => hR y (List.mem_cons_of_mem _ hy)) i r (by simpa using h) j v hv

theorem flatkR_set (k : Nat) : ∀ (R : List (List Value)), (∀ r ∈ R, r.length = k) → ∀ (i : Nat) (r : List Value), R[i]? = some r → ∀ (j : Nat) (y : Value), j < k → R.flatten.set (i * k + j) y = (R.set i (r.set j y)).flatten
  | [], _, i, r, h, _, _, _ => by simp at h
  | x :: R, hR, 0, r, h, j, y, hj => by
    simp at h
    subst h
    have hx := hR x List.mem_cons_self
    rw [Nat.zero_mul, Nat.zero_add, List.flatten_cons, List.set_cons_zero, List.flatten_cons, List.set_append_left _ _ (by omega)]
  | x :: R, hR, i + 1, r, h, j, y, hj => by
    have hx := hR x List.mem_cons_self
    rw [List.flatten_cons, List.set_cons_succ, List.flatten_cons, List.set_append_right _ _ (by rw [hx, Nat.succ_mul]; omega), hx, show (i + 1) * k + j - k = i * k + j by rw [Nat.succ_mul]; omega]
    rw [flatkR_set k R (fun y hy => hR y (List.mem_cons_of_mem _ hy)) i r (by simpa using h) j y hj]

theorem chunk (k : Nat) : ∀ (n : Nat) (L : List Value), L.length = n * k → ∃ R : List (List Value), R.length = n ∧ (∀ r ∈ R, r.length = k) ∧ R.flatten = L
  | 0, L, h => ⟨[], rfl, (fun r hr => by cases hr), by
    have : L = [] := List.eq_nil_of_length_eq_zero (by omega)
    rw [this]; rfl⟩
  | n + 1, L, h => by
    obtain ⟨R, h1, h2, h3⟩ := chunk k n (L.drop k) (by rw [List.length_drop, h, Nat.succ_mul]; omega)
    refine ⟨L.take k :: R, by simp [h1], ?_, by rw [List.flatten_cons, h3, List.take_append_drop]⟩
    intro r hr
    rcases List.mem_cons.1 hr with rfl | hr
    · rw [List.length_take, h, Nat.succ_mul]; omega
    · exact h2 r hr

/-- rows of k cells, one behind the other, all of a block -/
structure RowK (u : World) (g : Nat) (E : TypeId) (k : Nat) (R : List (List Value)) : Prop where
  row : u.heap[g]? = some (.cells R.flatten.toArray E (0, 0))
  len : ∀ r ∈ R, r.length = k

theorem RowK.to {u u' : World} {g : Nat} {E : TypeId} {k : Nat} {R : List (List Value)} (h : RowK u g E k R) (hb : u'.heap[g]? = u.heap[g]?) : RowK u' g E k R := ⟨hb.trans h.row, h.len⟩

theorem RowK.lt {u : World} {g : Nat} {E : TypeId} {k : Nat} {R : List (List Value)} (h : RowK u g E k R) : g < u.heap.size := lt_of_row h.row

theorem RowK.later {u u' : World} {g : Nat} {E : TypeId} {k : Nat} {R : List (List Value)} (h : RowK u g E k R) (hb : Below u.heap.size u u') : RowK u' g E k R := h.to (hb.block g h.lt)

theorem RowK.cell {u : World} {g : Nat} {E : TypeId} {k : Nat} {R : List (List Value)} (h : RowK u g E k R) (i : Nat) (r : List Value) (hr : R[i]? = some r) (j : Nat) (v : Value) (hv : r[j]? = some v) : u.cell? ⟨g, i * k + j, none⟩ = some v := by
  rw [cell_of_row u g (i * k + j) _ _ (0, 0) h.row, List.getElem?_toArray]
  exact flatkR_at k R h.len i r hr j v hv

theorem RowK.fro {u : World} {g : Nat} {E : TypeId} {k : Nat} {R : List (List Value)} (h : RowK u g E k R) (i : Nat) : u.frozen? ⟨g, i, none⟩ = false := frozen_of_row u g i _ _ h.row

theorem RowK.set1 {u : World} {g : Nat} {E : TypeId} {k : Nat} {R : List (List Value)} (h : RowK u g E k R) (i : Nat) (r : List Value) (hr : R[i]? = some r) (j : Nat) (y : Value) (hj : j < k) : RowK (u.setCell ⟨g, i * k + j, none⟩ y) g E k (R.set i (r.set j y)) := by
  refine ⟨?_, fun x hx => ?_⟩
  · rw [heap_setCell_same u g (i * k + j) _ _ _ h.row, ← flatkR_set k R h.len i r hr j y hj]
    simp
  · rcases List.mem_or_eq_of_mem_set hx with hx | hx
    · exact h.len x hx
    · rw [hx, List.length_set]; exact h.len r (List.mem_of_getElem? hr)

theorem set_set_same {α : Type} : ∀ (R : List α) (i : Nat) (a b : α), (R.set i a).set i b = R.set i b
  | [], i, a, b => by simp
  | x :: R, 0, a, b => by simp
  | x :: R, i + 1, a, b => by simp

theorem RowK.set5 {u : World} {g : Nat} {E : TypeId} {R : List (List Value)} (h : RowK u g E 5 R) (i : Nat) (hi : i < R.length) (y0 y1 y2 y3 y4 : Value) : RowK (((((u.setCell ⟨g, i * 5, none⟩ y0).setCell ⟨g, i * 5 + 1, none⟩ y1).setCell ⟨g, i * 5 + 2, none⟩ y2).setCell ⟨g, i * 5 + 3, none⟩ y3).setCell ⟨g, i * 5 + 4, none⟩ y4) g E 5 (R.set i [y0, y1, y2, y3, y4]) := by
  obtain ⟨r, hr⟩ : ∃ r, R[i]? = some r := ⟨_, List.getElem?_eq_getElem hi⟩
  match r, h.len r (List.mem_of_getElem? hr), hr with
  | [z0, z1, z2, z3, z4], _, hr =>
    have h0 := h.set1 i _ hr 0 y0 (by omega)
    have h1 := h0.set1 i _ (by rw [List.getElem?_set_self hi]) 1 y1 (by omega)
    have h2 := h1.set1 i _ (by rw [List.getElem?_set_self (by simpa using hi)]) 2 y2 (by omega)
    have h3 := h2.set1 i _ (by rw [List.getElem?_set_self (by simpa using hi)]) 3 y3 (by omega)
    have h4 := h3.set1 i _ (by rw [List.getElem?_set_self (by simpa using hi)]) 4 y4 (by omega)
    simp only [set_set_same, List.set_cons_zero, List.set_cons_succ] at h4
    exact h4

theorem RowK.set4 {u : World} {g : Nat} {E : TypeId} {R : List (List Value)} (h : RowK u g E 4 R) (i : Nat) (hi : i < R.length) (y0 y1 y2 y3 : Value) : RowK ((((u.setCell ⟨g, i * 4, none⟩ y0).setCell ⟨g, i * 4 + 1, none⟩ y1).setCell ⟨g, i * 4 + 2, none⟩ y2).setCell ⟨g, i * 4 + 3, none⟩ y3) g E 4 (R.set i [y0, y1, y2, y3]) := by
  obtain ⟨r, hr⟩ : ∃ r, R[i]? = some r := ⟨_, List.getElem?_eq_getElem hi⟩
  match r, h.len r (List.mem_of_getElem? hr), hr with
  | [z0, z1, z2, z3], _, hr =>
    have h0 := h.set1 i _ hr 0 y0 (by omega)
    have h1 := h0.set1 i _ (by rw [List.getElem?_set_self hi]) 1 y1 (by omega)
    have h2 := h1.set1 i _ (by rw [List.getElem?_set_self (by simpa using hi)]) 2 y2 (by omega)
    have h3 := h2.set1 i _ (by rw [List.getElem?_set_self (by simpa using hi)]) 3 y3 (by omega)
    simp only [set_set_same, List.set_cons_zero, List.set_cons_succ] at h3
    exact h3

theorem RowK.set2 {u : World} {g : Nat} {E : TypeId} {R : List (List Value)} (h : RowK u g E 2 R) (i : Nat) (hi : i < R.length) (y0 y1 : Value) : RowK ((u.setCell ⟨g, i * 2, none⟩ y0).setCell ⟨g, i * 2 + 1, none⟩ y1) g E 2 (R.set i [y0, y1]) := by
  obtain ⟨r, hr⟩ : ∃ r, R[i]? = some r := ⟨_, List.getElem?_eq_getElem hi⟩
  match r, h.len r (List.mem_of_getElem? hr), hr with
  | [z0, z1], _, hr =>
    have h0 := h.set1 i _ hr 0 y0 (by omega)
    have h1 := h0.set1 i _ (by rw [List.getElem?_set_self hi]) 1 y1 (by omega)
    simp only [set_set_same, List.set_cons_zero, List.set_cons_succ] at h1
    exact h1

theorem RowK.set6 {u : World} {g : Nat} {E : TypeId} {R : List (List Value)} (h : RowK u g E 6 R) (i : Nat) (hi : i < R.length) (y0 y1 y2 y3 y4 y5 : Value) : RowK ((((((u.setCell ⟨g, i * 6, none⟩ y0).setCell ⟨g, i * 6 + 1, none⟩ y1).setCell ⟨g, i * 6 + 2, none⟩ y2).setCell ⟨g, i * 6 + 3, none⟩ y3).setCell ⟨g, i * 6 + 4, none⟩ y4).setCell ⟨g, i * 6 + 5, none⟩ y5) g E 6 (R.set i [y0, y1, y2, y3, y4, y5]) := by
  obtain ⟨r, hr⟩ : ∃ r, R[i]? = some r := ⟨_, List.getElem?_eq_getElem hi⟩
  match r, h.len r (List.mem_of_getElem? hr), hr with
  | [z0, z1, z2, z3, z4, z5], _, hr =>
    have h0 := h.set1 i _ hr 0 y0 (by omega)
    have h1 := h0.set1 i _ (by rw [List.getElem?_set_self hi]) 1 y1 (by omega)
    have h2 := h1.set1 i _ (by rw [List.getElem?_set_self (by simpa using hi)]) 2 y2 (by omega)
    have h3 := h2.set1 i _ (by rw [List.getElem?_set_self (by simpa using hi)]) 3 y3 (by omega)
    have h4 := h3.set1 i _ (by rw [List.getElem?_set_self (by simpa using hi)]) 4 y4 (by omega)
    have h5 := h4.set1 i _ (by rw [List.getElem?_set_self (by simpa using hi)]) 5 y5 (by omega)
    simp only [set_set_same, List.set_cons_zero, List.set_cons_succ] at h5
    exact h5
end Go.Proofs.Ytlmgiimgmjbkeaa

namespace Go.Proofs.Ytlmgiimgmjbkeaa
open Go.RowKit
set_option linter.unusedVariables false
set_option linter.unusedSimpArgs false

def markE : List Value := [.string ⟨#[109, 97, 114, 107]⟩, .int .i64 0, .int .i64 0, .string ⟨#[]⟩, .slice none 0 0, .slice none 0 0]

/-- the cells of entries that came in -/
def CsE (u : World) (B : Nat) (es : List En) (al : Option Addr) (V : Nat → List Value) : Prop := ∀ i e, es[i]? = some e → ∃ (a : Addr) (x0 x1 : Int) (x2 : ByteArray) (al' ak' : Option Addr) (ll' m' cl' ck' : Nat), al = some a ∧ a.block < B ∧ V i = [.int .i64 x0, .int .i64 x1, .string x2, .slice al' ll' cl', .slice ak' m' ck'] ∧ (∀ j v, (Value.string e.1 :: V i)[j]? = some v → u.cell? ((a.add (i * 6)).add j) = some v) ∧ IsV u B e.2 (.agg (V i).toArray)

theorem CsE.later {u u' : World} {B : Nat} {es : List En} {al : Option Addr} {V : Nat → List Value} (h : CsE u B es al V) (hb : Below B u u') : CsE u' B es al V := by
  intro i y hy
  obtain ⟨a, x0, x1, x2, al', ak', ll', m', cl', ck', h1, h2, h3, h4, h5⟩ := h i y hy
  refine ⟨a, x0, x1, x2, al', ak', ll', m', cl', ck', h1, h2, h3, fun j v hv => ?_, h5.mono hb⟩
  have e : u'.cell? ((a.add (i * 6)).add j) = u.cell? ((a.add (i * 6)).add j) := World.cell?_of_block (by rw [block_add, block_add]; exact hb.block _ h2)
  rw [e]
  exact h4 j v hv

theorem IsE.csE {w : World} {B : Nat} {es : List En} {al : Option Addr} {cl : Nat} (h : IsE w (fun b => b < B) es al cl) : ∃ V, CsE w B es al V := by
  obtain ⟨V, h⟩ := h
  refine ⟨V, fun i e he => ?_⟩
  have hi : i < es.length := (List.getElem?_eq_some_iff.1 he).1
  cases al with
  | none => have := (h.nl rfl).1; omega
  | some a =>
    obtain ⟨_, hp⟩ := h.hv i e he
    obtain ⟨k', n', s', l', ks', al', ak', cl', ck', hy', hx⟩ := hp.shape
    have hVi : V i = [.int .i64 k', .int .i64 n', .string s', .slice al' l'.length cl', .slice ak' ks'.length ck'] := by
      have h1 := Value.agg.inj hx
      have h2 := congrArg Array.toList h1
      simpa using h2
    exact ⟨a, k', n', s', al', ak', _, _, cl', ck', rfl, (h.hl a rfl i e he).1, hVi, (h.hl a rfl i e he).2, hp⟩

theorem LentOk.wide {u : World} {lo hi lo' hi' : Nat} {v : Vl} {x y : Value} (h : LentOk u lo hi v x y) (h1 : lo' ≤ lo) (h2 : hi ≤ hi') : LentOk u lo' hi' v x y := by
  rcases h with ⟨a, b⟩ | h
  · exact Or.inl ⟨a, b.to (fun _ _ => rfl) (fun c hc => ⟨by omega, by omega⟩)⟩
  · exact Or.inr h

theorem LentOk.shape {u : World} {lo hi : Nat} {v : Vl} {x0 x1 : Int} {x2 : ByteArray} {x3 x4 : Option Addr} {n3 c3 n4 c4 : Nat} {y : Value} (h : LentOk u lo hi v (.agg #[.int .i64 x0, .int .i64 x1, .string x2, .slice x3 n3 c3, .slice x4 n4 c4]) y) : ∃ (k n : Int) (s : ByteArray) (a b : Option Addr) (p q p' q' : Nat), y = .agg #[.int .i64 k, .int .i64 n, .string s, .slice a p q, .slice b p' q'] := by
  rcases h with ⟨_, bl, bk, V, e, _, _⟩ | ⟨_, e⟩
  · exact ⟨_, _, _, _, _, _, _, _, _, e⟩
  · exact ⟨_, _, _, _, _, _, _, _, _, e⟩

/-- entries that are being lent: i of them have been -/
structure LE (w1 wr : World) (be i N : Nat) (es : List En) (V : Nat → List Value) (R : List (List Value)) : Prop where
  row : RowK wr be 48 6 R
  rl : R.length = N
  hm : ∀ j, es.length ≤ j → j < i → R[j]? = some markE
  el : ∀ j e, es[j]? = some e → j < i → ∃ r, R[j]? = some (.string e.1 :: r) ∧ LentOk wr (be + 1) wr.heap.size e.2 (.agg (V j).toArray) (.agg r.toArray)
  below : Below be w1 wr

theorem LE.next {w1 wr u : World} {be i N : Nat} {es : List En} {V : Nat → List Value} {R : List (List Value)} (h : LE w1 wr be i N es V R) (hi : i < N) (r : List Value) (hu : ∀ c, be < c → c < wr.heap.size → u.heap[c]? = wr.heap[c]?) (hs : wr.heap.size ≤ u.heap.size) (hb : Below be w1 u) (hr : RowK u be 48 6 (R.set i r))
    (hm : es.length ≤ i → r = markE) (he : ∀ e, es[i]? = some e → ∃ r', r = .string e.1 :: r' ∧ LentOk u (be + 1) u.heap.size e.2 (.agg (V i).toArray) (.agg r'.toArray)) : LE w1 u be (i + 1) N es V (R.set i r) where
  row := hr
  rl := by rw [List.length_set]; exact h.rl
  hm := fun j h1 h2 => by
    by_cases e : j = i
    · subst e
      rw [List.getElem?_set_self (by rw [h.rl]; exact hi), hm h1]
    · rw [List.getElem?_set_ne (by omega)]
      exact h.hm j h1 (by omega)
  el := fun j y hy h2 => by
    by_cases e : j = i
    · subst e
      obtain ⟨r', h3, h4⟩ := he y hy
      exact ⟨r', by rw [List.getElem?_set_self (by rw [h.rl]; exact hi), h3], h4⟩
    · obtain ⟨r', h3, h4⟩ := h.el j y hy (by omega)
      exact ⟨r', by rw [List.getElem?_set_ne (by omega)]; exact h3, (h4.to (fun b hb1 hb2 => hu b (by omega) hb2)).wide (Nat.le_refl _) hs⟩
  below := hb

/-- entries that were lent -/
structure LentE (u : World) (lo hi : Nat) (es : List En) (V : Nat → List Value) (be : Nat) (R : List (List Value)) : Prop where
  rc : RowK u be 48 6 (R ++ [markE, markE])
  rl : R.length = es.length
  el : ∀ j e, es[j]? = some e → ∃ r, R[j]? = some (.string e.1 :: r) ∧ LentOk u lo hi e.2 (.agg (V j).toArray) (.agg r.toArray)
  b1 : lo ≤ be ∧ be < hi
  top : hi ≤ u.heap.size

theorem LentE.to {u u' : World} {lo hi : Nat} {es : List En} {V : Nat → List Value} {be : Nat} {R : List (List Value)} (h : LentE u lo hi es V be R) (hb : ∀ b, lo ≤ b → b < hi → u'.heap[b]? = u.heap[b]?) (hs : hi ≤ u'.heap.size) : LentE u' lo hi es V be R where
  rc := h.rc.to (hb _ h.b1.1 h.b1.2)
  rl := h.rl
  el := fun j y hy => by
    obtain ⟨r, h1, h2⟩ := h.el j y hy
    exact ⟨r, h1, h2.to (fun b hb1 hb2 => hb b hb1 hb2)⟩
  b1 := h.b1
  top := hs

theorem LentE.later {u u' : World} {lo hi : Nat} {es : List En} {V : Nat → List Value} {be : Nat} {R : List (List Value)} (h : LentE u lo hi es V be R) (hb : Below u.heap.size u u') : LentE u' lo hi es V be R :=
  h.to (fun b _ h2 => hb.block b (Nat.lt_of_lt_of_le h2 h.top)) (Nat.le_trans h.top hb.size)

/-- lent entries lie as entries do -/
theorem LentE.isE {u w0 : World} {lo hi : Nat} {es : List En} {V : Nat → List Value} {be B C cl : Nat} {R : List (List Value)} {al : Option Addr} {Q : Nat → Prop} (h : LentE u lo hi es V be R) (hV : CsE u B es al V) (hM : IsE w0 Q es al cl) (h1 : hi ≤ C) (h2 : B ≤ C) : IsE u (fun b => b < C) es (some ⟨be, 0, none⟩) (es.length + 2) := by
  obtain ⟨V0, h0⟩ := hM
  refine ⟨fun i => (R.getD i []).tail, (fun e => by cases e), Nat.le_add_right _ _, h0.bl, ?_, h0.bt, ?_⟩
  · intro a ha i e he
    cases ha
    obtain ⟨r, hr, hk⟩ := h.el i e he
    have e1 : R.getD i [] = .string e.1 :: r := by rw [List.getD_eq_getElem?_getD, hr]; rfl
    refine ⟨by show be < C; have := h.b1; omega, fun j v hv => ?_⟩
    rw [e1, List.tail_cons] at hv
    rw [addK, addK0]
    exact h.rc.cell i _ (by rw [List.getElem?_append_left (List.getElem?_eq_some_iff.1 hr).1]; exact hr) j v hv
  · intro i e he
    obtain ⟨r, hr, hk⟩ := h.el i e he
    have e1 : R.getD i [] = .string e.1 :: r := by rw [List.getD_eq_getElem?_getD, hr]; rfl
    obtain ⟨_, _, _, _, _, _, _, _, _, _, _, _, _, _, hv⟩ := hV i e he
    have hl := h.rc.len _ (List.mem_append_left _ (List.mem_of_getElem? hr))
    rw [e1, List.tail_cons]
    exact ⟨by simpa using hl, hk.isV hv h1 h2⟩

theorem split2 {α : Type} (R : List α) (n : Nat) (a b : α) (hl : R.length = n + 2) (ha : R[n]? = some a) (hb : R[n + 1]? = some b) : R = R.take n ++ [a, b] := by
  apply List.ext_getElem?
  intro i
  rcases Nat.lt_or_ge i n with h | h
  · rw [List.getElem?_append_left (by rw [List.length_take]; omega), List.getElem?_take_of_lt h]
  · rw [List.getElem?_append_right (by rw [List.length_take]; omega), List.length_take, Nat.min_eq_left (by omega)]
    rcases (show i = n ∨ i = n + 1 ∨ n + 2 ≤ i by omega) with rfl | rfl | h2
    · rw [Nat.sub_self, ha]; rfl
    · rw [show n + 1 - n = 1 by omega, hb]; rfl
    · rw [List.getElem?_eq_none (by omega), List.getElem?_eq_none (by simp; omega)]

theorem infoSE : (Try.prog.info? 48).map (fun i => (i.zero, i.size, i.bytes)) = some (some (.agg #[.string ⟨#[]⟩, .int .i64 0, .int .i64 0, .string ⟨#[]⟩, .slice none 0 0, .slice none 0 0]), 6, 96) := by kernel_rfl

def sixSetE (w : World) (b i : Nat) (y0 y1 y2 y3 y4 y5 : Value) : World := (((((w.setCell ⟨b, i * 6, none⟩ y0).setCell ⟨b, i * 6 + 1, none⟩ y1).setCell ⟨b, i * 6 + 2, none⟩ y2).setCell ⟨b, i * 6 + 3, none⟩ y3).setCell ⟨b, i * 6 + 4, none⟩ y4).setCell ⟨b, i * 6 + 5, none⟩ y5

theorem sixSetE_facts (w : World) (b i : Nat) (y0 y1 y2 y3 y4 y5 : Value) : (∀ c, c ≠ b → (sixSetE w b i y0 y1 y2 y3 y4 y5).heap[c]? = w.heap[c]?) ∧ (sixSetE w b i y0 y1 y2 y3 y4 y5).heap.size = w.heap.size ∧ Below b w (sixSetE w b i y0 y1 y2 y3 y4 y5) := by
  unfold sixSetE
  refine ⟨fun c hc => by rw [heap_setCell_other _ _ _ _ hc, heap_setCell_other _ _ _ _ hc, heap_setCell_other _ _ _ _ hc, heap_setCell_other _ _ _ _ hc, heap_setCell_other _ _ _ _ hc, heap_setCell_other _ _ _ _ hc], by simp, ?_⟩
  exact ((((((Below.refl _ _).setCell (p := ⟨b, i * 6, none⟩) (Nat.le_refl _) _).setCell (p := ⟨b, i * 6 + 1, none⟩) (Nat.le_refl _) _).setCell (p := ⟨b, i * 6 + 2, none⟩) (Nat.le_refl _) _).setCell (p := ⟨b, i * 6 + 3, none⟩) (Nat.le_refl _) _).setCell (p := ⟨b, i * 6 + 4, none⟩) (Nat.le_refl _) _).setCell (p := ⟨b, i * 6 + 5, none⟩) (Nat.le_refl _) _
end Go.Proofs.Ytlmgiimgmjbkeaa

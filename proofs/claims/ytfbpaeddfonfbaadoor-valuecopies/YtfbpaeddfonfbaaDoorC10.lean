/-
  Values that were lent: in lists of their own, with marks in the spare room behind each; no conditions.
-/
import Derived.Test.YtfbpaeddfonfbaaDoorC09
namespace Go.Proofs.YtfbpaeddfonfbaaDoor
open Go.RowKit

def markV : List Value := [.int .i64 2, .int .i64 77, .string ⟨#[]⟩, .slice none 0 0, .slice none 0 0]
def markK : Value := .string ⟨#[109, 97, 114, 107]⟩
theorem markV_len : markV.length = 5 := rfl
def rowK (ks : List ByteArray) : List Value := ks.map Value.string ++ [markK, markK, markK, markK]

/-- what a lent value's head says of memory -/
structure LF (w : World) (P : Nat → Prop) (l : List Vl) (ks : List ByteArray) (bl bk : Nat) (V : Nat → List Value) : Prop where
  pl : P bl
  pk : P bk
  hl : w.heap[bl]? = some (.cells (flat V (l.length + 4)).toArray 25 (0, 0))
  hv : ∀ i, i < l.length + 4 → (V i).length = 5
  hm : ∀ i, l.length ≤ i → i < l.length + 4 → V i = markV
  hk : w.heap[bk]? = some (.cells (rowK ks).toArray 9 (0, 0))

def LnL (w : World) (P : Nat → Prop) : List Vl → (Nat → List Value) → Prop
  | [], _ => True
  | .mk kind n s l ks :: r, V => (∃ (bl bk : Nat) (V' : Nat → List Value), (.agg (V 0).toArray : Value) = hd kind n s (some ⟨bl, 0, none⟩) (some ⟨bk, 0, none⟩) l.length ks.length (l.length + 4) (ks.length + 4) ∧ LF w P l ks bl bk V' ∧ LnL w P l V') ∧ LnL w P r (fun i => V (i + 1))

/-- a lent value, its lists in blocks of P -/
def Ln (w : World) (P : Nat → Prop) (v : Vl) (x : Value) : Prop :=
  ∃ (bl bk : Nat) (V : Nat → List Value), x = hd v.kind v.n v.s (some ⟨bl, 0, none⟩) (some ⟨bk, 0, none⟩) v.l.length v.ks.length (v.l.length + 4) (v.ks.length + 4) ∧ LF w P v.l v.ks bl bk V ∧ LnL w P v.l V

theorem LnL_iff (w : World) (P : Nat → Prop) : ∀ (l : List Vl) (V : Nat → List Value), LnL w P l V ↔ ∀ i y, l[i]? = some y → Ln w P y (.agg (V i).toArray)
  | [], V => by simp [LnL]
  | .mk kind n s l ks :: r, V => by
    have ih := LnL_iff w P r (fun i => V (i + 1))
    simp only [LnL]
    rw [ih]
    constructor
    · rintro ⟨h1, h2⟩ i y hy
      cases i with
      | zero => simp at hy; subst hy; exact h1
      | succ i => exact h2 i y (by simpa using hy)
    · intro h
      exact ⟨h 0 (.mk kind n s l ks) (by simp), fun i y hy => h (i + 1) y (by simpa using hy)⟩

theorem LF.to {w w' : World} {P Q : Nat → Prop} (hw : ∀ b, P b → w'.heap[b]? = w.heap[b]?) (hP : ∀ b, P b → Q b) {l : List Vl} {ks : List ByteArray} {bl bk : Nat} {V : Nat → List Value} (h : LF w P l ks bl bk V) : LF w' Q l ks bl bk V :=
  ⟨hP _ h.pl, hP _ h.pk, (hw _ h.pl).trans h.hl, h.hv, h.hm, (hw _ h.pk).trans h.hk⟩

theorem LnL.to {w w' : World} {P Q : Nat → Prop} (hw : ∀ b, P b → w'.heap[b]? = w.heap[b]?) (hP : ∀ b, P b → Q b) : ∀ (l : List Vl) (V : Nat → List Value), LnL w P l V → LnL w' Q l V
  | [], V, _ => by simp only [LnL]
  | .mk kind n s l ks :: r, V, h => by
    simp only [LnL] at h ⊢
    obtain ⟨⟨bl, bk, V', hx, hf, hl⟩, hr⟩ := h
    exact ⟨⟨bl, bk, V', hx, hf.to hw hP, LnL.to hw hP l V' hl⟩, LnL.to hw hP r _ hr⟩

theorem Ln.to {w w' : World} {P Q : Nat → Prop} (hw : ∀ b, P b → w'.heap[b]? = w.heap[b]?) (hP : ∀ b, P b → Q b) {v : Vl} {x : Value} (h : Ln w P v x) : Ln w' Q v x := by
  obtain ⟨bl, bk, V, hx, hf, hl⟩ := h
  exact ⟨bl, bk, V, hx, hf.to hw hP, LnL.to hw hP v.l V hl⟩

theorem Ln.of {w : World} {P : Nat → Prop} {kind n : Int} {s : ByteArray} {l : List Vl} {ks : List ByteArray} {bl bk : Nat} {V : Nat → List Value} (hf : LF w P l ks bl bk V) (el : ∀ i y, l[i]? = some y → Ln w P y (.agg (V i).toArray)) :
    Ln w P (.mk kind n s l ks) (.agg #[.int .i64 kind, .int .i64 n, .string s, .slice (some ⟨bl, 0, none⟩) l.length (l.length + 4), .slice (some ⟨bk, 0, none⟩) ks.length (ks.length + 4)]) :=
  ⟨bl, bk, V, rfl, hf, (LnL_iff w P l V).2 el⟩

/-- five cells of a row are set -/
theorem set_five (A B : List Value) (i : Nat) (z0 z1 z2 z3 z4 y0 y1 y2 y3 y4 : Value) (hA : A.length = i * 5) :
    ((((((A ++ [z0, z1, z2, z3, z4] ++ B).toArray.setIfInBounds (i * 5) y0).setIfInBounds (i * 5 + 1) y1).setIfInBounds (i * 5 + 2) y2).setIfInBounds (i * 5 + 3) y3).setIfInBounds (i * 5 + 4) y4) = (A ++ [y0, y1, y2, y3, y4] ++ B).toArray := by
  apply Array.ext'
  simp only [Array.toList_setIfInBounds, List.append_assoc]
  rw [← hA]
  simp [List.set_append_right]

/-- five cells of a block are set -/
theorem five_row (w : World) (g i : Nat) (T : TypeId) (A B : List Value) (z0 z1 z2 z3 z4 y0 y1 y2 y3 y4 : Value) (hA : A.length = i * 5) (h : w.heap[g]? = some (.cells (A ++ [z0, z1, z2, z3, z4] ++ B).toArray T (0, 0))) :
    (((((w.setCell ⟨g, i * 5, none⟩ y0).setCell ⟨g, i * 5 + 1, none⟩ y1).setCell ⟨g, i * 5 + 2, none⟩ y2).setCell ⟨g, i * 5 + 3, none⟩ y3).setCell ⟨g, i * 5 + 4, none⟩ y4).heap[g]? = some (.cells (A ++ [y0, y1, y2, y3, y4] ++ B).toArray T (0, 0)) := by
  have h1 := heap_setCell_same w g (i * 5) _ T y0 h
  have h2 := heap_setCell_same _ g (i * 5 + 1) _ T y1 h1
  have h3 := heap_setCell_same _ g (i * 5 + 2) _ T y2 h2
  have h4 := heap_setCell_same _ g (i * 5 + 3) _ T y3 h3
  have h5 := heap_setCell_same _ g (i * 5 + 4) _ T y4 h4
  rw [h5, set_five A B i z0 z1 z2 z3 z4 y0 y1 y2 y3 y4 hA]

/-- one more group -/
def putV (V : Nat → List Value) (i : Nat) (c : List Value) : Nat → List Value := fun j => if j = i then c else V j

theorem putV_at (V : Nat → List Value) (i : Nat) (c : List Value) : putV V i c i = c := by simp [putV]
theorem putV_ne (V : Nat → List Value) (i j : Nat) (c : List Value) (h : j ≠ i) : putV V i c j = V j := by simp [putV, h]

theorem flat_put (V : Nat → List Value) (i : Nat) (c : List Value) : flat (putV V i c) (i + 1) = flat V i ++ c := by
  simp only [flat]
  rw [putV_at, flat_congr (putV V i c) V i (fun j hj => putV_ne V i j c (by omega))]

theorem five_of {Z : List Value} (h : 5 ≤ Z.length) : ∃ z0 z1 z2 z3 z4 B, Z = [z0, z1, z2, z3, z4] ++ B ∧ B.length + 5 = Z.length := by
  match Z, h with
  | z0 :: z1 :: z2 :: z3 :: z4 :: B, _ => exact ⟨z0, z1, z2, z3, z4, B, rfl, by simp⟩

/-- what a block that is all a row's own holds -/
theorem own_all {w : World} {base g n size : Nat} {e : TypeId} {xs : List Value} (h : w.ownsRow base e size (.slice (some ⟨g, 0, none⟩) n n) n xs) : w.heap[g]? = some (.cells xs.toArray e (0, 0)) := by
  rcases h.2 with ⟨e, _⟩ | ⟨g', cap', cur, e, _, hg, _, _, hs, ht⟩
  · cases e
  · cases e
    have hc : cur.toList = xs := by rw [← ht, List.take_of_length_le (by rw [Array.length_toList, hs]; exact Nat.le_refl _)]
    rw [hg, ← hc]

theorem five_get {w : World} {g i : Nat} {T : TypeId} {A B : List Value} {z0 z1 z2 z3 z4 : Value} (hA : A.length = i * 5) (h : w.heap[g]? = some (.cells (A ++ [z0, z1, z2, z3, z4] ++ B).toArray T (0, 0))) :
    (w.cell? ⟨g, i * 5, none⟩ = some z0 ∧ w.cell? ⟨g, i * 5 + 1, none⟩ = some z1 ∧ w.cell? ⟨g, i * 5 + 2, none⟩ = some z2 ∧ w.cell? ⟨g, i * 5 + 3, none⟩ = some z3 ∧ w.cell? ⟨g, i * 5 + 4, none⟩ = some z4) ∧ ∀ j, w.frozen? ⟨g, j, none⟩ = false := by
  have hc : ∀ j, w.cell? ⟨g, i * 5 + j, none⟩ = ([z0, z1, z2, z3, z4] ++ B)[j]? := fun j => by
    rw [cell_of_row w g (i * 5 + j) _ T (0, 0) h, List.getElem?_toArray, List.append_assoc, List.getElem?_append_right (by omega), hA]
    congr 1
    omega
  exact ⟨⟨hc 0, hc 1, hc 2, hc 3, hc 4⟩, fun j => frozen_of_row w g j _ T h⟩
end Go.Proofs.YtfbpaeddfonfbaaDoor

/-
  Values that were lent: in lists of their own, with marks in the spare room behind each; no conditions.
  The walks of mark and Lent; conditions: lists of at most 2048.
-/
import Derived.Test.YtlmgiimgmjbkeaaA08
import Derived.Test.YtlmgiimgmjbkeaaA02
import Derived.WalkSpells
import Derived.WalkSmall
set_option linter.unusedVariables false
set_option linter.unusedSimpArgs false
namespace Go.Proofs.Ytlmgiimgmjbkeaa
open Go.RowKit

def markV : List Value := [.int .i64 2, .int .i64 77, .string ⟨#[]⟩, .slice none 0 0, .slice none 0 0]
def markK : Value := .string ⟨#[109, 97, 114, 107]⟩
theorem markV_len : markV.length = 5 := rfl
def rowK (ks : List ByteArray) : List Value := ks.map Value.string ++ [markK, markK, markK, markK]

/-- what a lent value's head says of memory -/
structure LF (w : World) (P : Nat → Prop) (l : List Vl) (ks : List ByteArray) (bl bk : Nat) (V : Nat → List Value) : Prop where
  pl : P bl
  pk : P bk
  hl : w.heap[bl]? = some (.cells (flat V (l.length + 4)).toArray 34 (0, 0))
  hv : ∀ i, i < l.length + 4 → (V i).length = 5
  hm : ∀ i, l.length ≤ i → i < l.length + 4 → V i = markV
  hk : w.heap[bk]? = some (.cells (rowK ks).toArray 9 (0, 0))

def LnL (w : World) (P : Nat → Prop) : List Vl → (Nat → List Value) → Prop
  | [], _ => True
  | .mk kind n s l ks :: r, V => (∃ (bl bk : Nat) (V' : Nat → List Value), (.agg (V 0).toArray : Value) = hd kind n s (some ⟨bl, 0, none⟩) (some ⟨bk, 0, none⟩) l.length ks.length (l.length + 4) (ks.length + 4) ∧ LF w P l ks bl bk V' ∧ LnL w P l V') ∧ LnL w P r (fun i => V (i + 1))

/-- a lent value, its lists in blocks of P -/
def Ln (w : World) (P : Nat → Prop) (v : Vl) (x : Value) : Prop :=
  ∃ (bl bk : Nat) (V : Nat → List Value), x = hd v.kind v.n v.s (some ⟨bl, 0, none⟩) (some ⟨bk, 0, none⟩) v.l.length v.ks.length (v.l.length + 4) (v.ks.length + 4) ∧ LF w P v.l v.ks bl bk V ∧ LnL w P v.l V

theorem LnL_iff (w : World) (P : Nat → Prop) : ∀ (l : List Vl) (V : Nat → List Value), LnL w P l V ↔ ∀ i y, l[i]? = some y → Ln w P y (.agg (V i).toArray)
  | [], V => by simp [LnL]
  | .mk kind n s l ks :: r, V => by
    have ih := LnL_iff w P r (fun i => V (i + 1))
    simp only [LnL]
    rw [ih]
    constructor
    · rintro ⟨h1, h2⟩ i y hy
      cases i with
      | zero => simp at hy; subst hy; exact h1
      | succ i => exact h2 i y (by simpa using hy)
    · intro h
      exact ⟨h 0 (.mk kind n s l ks) (by simp), fun i y hy => h (i + 1) y (by simpa using hy)⟩

theorem LF.to {w w' : World} {P Q : Nat → Prop} (hw : ∀ b, P b → w'.heap[b]? = w.heap[b]?) (hP : ∀ b, P b → Q b) {l : List Vl} {ks : List ByteArray} {bl bk : Nat} {V : Nat → List Value} (h : LF w P l ks bl bk V) : LF w' Q l ks bl bk V :=
  ⟨hP _ h.pl, hP _ h.pk, (hw _ h.pl).trans h.hl, h.hv, h.hm, (hw _ h.pk).trans h.hk⟩

theorem LnL.to {w w' : World} {P Q : Nat → Prop} (hw : ∀ b, P b → w'.heap[b]? = w.heap[b]?) (hP : ∀ b, P b → Q b) : ∀ (l : List Vl) (V : Nat → List Value), LnL w P l V → LnL w' Q l V
  | [], V, _ => by simp only [LnL]
  | .mk kind n s l ks :: r, V, h => by
    simp only [LnL] at h ⊢
    obtain ⟨⟨bl, bk, V', hx, hf, hl⟩, hr⟩ := h
    exact ⟨⟨bl, bk, V', hx, hf.to hw hP, LnL.to hw hP l V' hl⟩, LnL.to hw hP r _ hr⟩

theorem Ln.to {w w' : World} {P Q : Nat → Prop} (hw : ∀ b, P b → w'.heap[b]? = w.heap[b]?) (hP : ∀ b, P b → Q b) {v : Vl} {x : Value} (h : Ln w P v x) : Ln w' Q v x := by
  obtain ⟨bl, bk, V, hx, hf, hl⟩ := h
  exact ⟨bl, bk, V, hx, hf.to hw hP, LnL.to hw hP v.l V hl⟩

theorem Ln.of {w : World} {P : Nat → Prop} {kind n : Int} {s : ByteArray} {l : List Vl} {ks : List ByteArray} {bl bk : Nat} {V : Nat → List Value} (hf : LF w P l ks bl bk V) (el : ∀ i y, l[i]? = some y → Ln w P y (.agg (V i).toArray)) :
    Ln w P (.mk kind n s l ks) (.agg #[.int .i64 kind, .int .i64 n, .string s, .slice (some ⟨bl, 0, none⟩) l.length (l.length + 4), .slice (some ⟨bk, 0, none⟩) ks.length (ks.length + 4)]) :=
  ⟨bl, bk, V, rfl, hf, (LnL_iff w P l V).2 el⟩

/-- five cells of a row are set -/
theorem set_five (A B : List Value) (i : Nat) (z0 z1 z2 z3 z4 y0 y1 y2 y3 y4 : Value) (hA : A.length = i * 5) :
    ((((((A ++ [z0, z1, z2, z3, z4] ++ B).toArray.setIfInBounds (i * 5) y0).setIfInBounds (i * 5 + 1) y1).setIfInBounds (i * 5 + 2) y2).setIfInBounds (i * 5 + 3) y3).setIfInBounds (i * 5 + 4) y4) = (A ++ [y0, y1, y2, y3, y4] ++ B).toArray := by
  apply Array.ext'
  simp only [Array.toList_setIfInBounds, List.append_assoc]
  rw [← hA]
  simp [List.set_append_right]

/-- five cells of a block are set -/
theorem five_row (w : World) (g i : Nat) (T : TypeId) (A B : List Value) (z0 z1 z2 z3 z4 y0 y1 y2 y3 y4 : Value) (hA : A.length = i * 5) (h : w.heap[g]? = some (.cells (A ++ [z0, z1, z2, z3, z4] ++ B).toArray T (0, 0))) :
    (((((w.setCell ⟨g, i * 5, none⟩ y0).setCell ⟨g, i * 5 + 1, none⟩ y1).setCell ⟨g, i * 5 + 2, none⟩ y2).setCell ⟨g, i * 5 + 3, none⟩ y3).setCell ⟨g, i * 5 + 4, none⟩ y4).heap[g]? = some (.cells (A ++ [y0, y1, y2, y3, y4] ++ B).toArray T (0, 0)) := by
  have h1 := heap_setCell_same w g (i * 5) _ T y0 h
  have h2 := heap_setCell_same _ g (i * 5 + 1) _ T y1 h1
  have h3 := heap_setCell_same _ g (i * 5 + 2) _ T y2 h2
  have h4 := heap_setCell_same _ g (i * 5 + 3) _ T y3 h3
  have h5 := heap_setCell_same _ g (i * 5 + 4) _ T y4 h4
  rw [h5, set_five A B i z0 z1 z2 z3 z4 y0 y1 y2 y3 y4 hA]

/-- one more group -/
def putV (V : Nat → List Value) (i : Nat) (c : List Value) : Nat → List Value := fun j => if j = i then c else V j

theorem putV_at (V : Nat → List Value) (i : Nat) (c : List Value) : putV V i c i = c := by simp [putV]
theorem putV_ne (V : Nat → List Value) (i j : Nat) (c : List Value) (h : j ≠ i) : putV V i c j = V j := by simp [putV, h]

theorem flat_put (V : Nat → List Value) (i : Nat) (c : List Value) : flat (putV V i c) (i + 1) = flat V i ++ c := by
  simp only [flat]
  rw [putV_at, flat_congr (putV V i c) V i (fun j hj => putV_ne V i j c (by omega))]

theorem five_of {Z : List Value} (h : 5 ≤ Z.length) : ∃ z0 z1 z2 z3 z4 B, Z = [z0, z1, z2, z3, z4] ++ B ∧ B.length + 5 = Z.length := by
  match Z, h with
  | z0 :: z1 :: z2 :: z3 :: z4 :: B, _ => exact ⟨z0, z1, z2, z3, z4, B, rfl, by simp⟩

/-- what a block that is all a row's own holds -/
theorem own_all {w : World} {base g n size : Nat} {e : TypeId} {xs : List Value} (h : w.ownsRow base e size (.slice (some ⟨g, 0, none⟩) n n) n xs) : w.heap[g]? = some (.cells xs.toArray e (0, 0)) := by
  rcases h.2 with ⟨e, _⟩ | ⟨g', cap', cur, e, _, hg, _, _, hs, ht⟩
  · cases e
  · cases e
    have hc : cur.toList = xs := by rw [← ht, List.take_of_length_le (by rw [Array.length_toList, hs]; exact Nat.le_refl _)]
    rw [hg, ← hc]

theorem five_get {w : World} {g i : Nat} {T : TypeId} {A B : List Value} {z0 z1 z2 z3 z4 : Value} (hA : A.length = i * 5) (h : w.heap[g]? = some (.cells (A ++ [z0, z1, z2, z3, z4] ++ B).toArray T (0, 0))) :
    (w.cell? ⟨g, i * 5, none⟩ = some z0 ∧ w.cell? ⟨g, i * 5 + 1, none⟩ = some z1 ∧ w.cell? ⟨g, i * 5 + 2, none⟩ = some z2 ∧ w.cell? ⟨g, i * 5 + 3, none⟩ = some z3 ∧ w.cell? ⟨g, i * 5 + 4, none⟩ = some z4) ∧ ∀ j, w.frozen? ⟨g, j, none⟩ = false := by
  have hc : ∀ j, w.cell? ⟨g, i * 5 + j, none⟩ = ([z0, z1, z2, z3, z4] ++ B)[j]? := fun j => by
    rw [cell_of_row w g (i * 5 + j) _ T (0, 0) h, List.getElem?_toArray, List.append_assoc, List.getElem?_append_right (by omega), hA]
    congr 1
    omega
  exact ⟨⟨hc 0, hc 1, hc 2, hc 3, hc 4⟩, fun j => frozen_of_row w g j _ T h⟩
end Go.Proofs.Ytlmgiimgmjbkeaa

namespace Go.Proofs.Ytlmgiimgmjbkeaa
open Go.RowKit
set_option linter.unusedVariables false
set_option linter.unusedSimpArgs false

theorem infoLV : (Try.prog.info? 34).map (fun i => (i.zero, i.size, i.bytes)) = some (some (.agg #[.int .i64 0, .int .i64 0, .string ⟨#[]⟩, .slice none 0 0, .slice none 0 0]), 5, 80) := by kernel_rfl
theorem infoLS : (Try.prog.info? 9).map (fun i => (i.zero, i.size, i.bytes)) = some (some (.string ⟨#[]⟩), 1, 16) := by kernel_rfl

set_option maxRecDepth 100000 in
theorem mark_any (w : World) : Calls Try.prog 30 #[] w fun e w' => e = .returned (.agg #[.int .i64 2, .int .i64 77, .string ⟨#[]⟩, .slice none 0 0, .slice none 0 0]) ∧ Below w.heap.size w w' := by
  have BX := Box.mk' w (.int .i64 2) (.int .i64 77) (.string ⟨#[]⟩) (.slice none 0 0) (.slice none 0 0)
  obtain ⟨c0, c1, c2, c3, c4⟩ := row_cell BX.row
  go_enter Try.func30, Try.ntmps30
  go_wp2_with fail
  refine bodyPost_ret (v := .agg #[.int .i64 2, .int .i64 77, .string ⟨#[]⟩, .slice none 0 0, .slice none 0 0]) (by simp [results, Try.results30, go_sem, c0, c1, c2, c3, c4]) rfl ?_
  exact ⟨rfl, BX.below⟩

/-- three new variables -/
structure Three (w w3 : World) (g : Nat) (x y z : Array Value) : Prop where
  at0 : w3.heap[g]? = some (.cells x 34 (0, 0))
  at1 : w3.heap[g + 1]? = some (.cells y 34 (0, 0))
  at2 : w3.heap[g + 1 + 1]? = some (.cells z 34 (0, 0))
  size : w3.heap.size = g + 3
  below : Below g w w3

theorem Three.mk' (w : World) (g : Nat) (hg : w.heap.size = g) (x y z : Array Value) : Three w (((w.alloc (.cells x 34)).alloc (.cells y 34)).alloc (.cells z 34)) g x y z := by
  subst hg
  have h0 := heap_alloc_new w (.cells x 34)
  have h1 := heap_alloc_new (w.alloc (.cells x 34)) (.cells y 34)
  have h2 := heap_alloc_new ((w.alloc (.cells x 34)).alloc (.cells y 34)) (.cells z 34)
  have s1 : (w.alloc (.cells x 34)).heap.size = w.heap.size + 1 := by simp
  have s2 : ((w.alloc (.cells x 34)).alloc (.cells y 34)).heap.size = w.heap.size + 1 + 1 := by simp
  rw [s1] at h1
  rw [s2] at h2
  refine ⟨?_, ?_, h2, by simp, (((Below.refl _ _).alloc (Nat.le_refl _) _).alloc (by simp) _).alloc (by rw [s2]; omega) _⟩
  · rw [heap_alloc_old _ _ (by omega), heap_alloc_old _ _ (by omega)]; exact h0
  · rw [heap_alloc_old _ _ (by omega)]; exact h1

/-- what is known of the list of values that is being lent -/
structure LRow (w3 wr : World) (bl i N : Nat) (l : List Vl) (V : Nat → List Value) (Z : List Value) : Prop where
  row : wr.heap[bl]? = some (.cells (flat V i ++ Z).toArray 34 (0, 0))
  zl : Z.length = (N - i) * 5
  hv : ∀ j, j < i → (V j).length = 5
  hm : ∀ j, l.length ≤ j → j < i → V j = markV
  el : ∀ j y, l[j]? = some y → j < i → Ln wr (fun b => bl < b ∧ b < wr.heap.size) y (.agg (V j).toArray)
  below : Below bl w3 wr
  lt : bl < wr.heap.size

theorem LRow.at {w3 wr : World} {bl i N : Nat} {l : List Vl} {V : Nat → List Value} {Z : List Value} (h : LRow w3 wr bl i N l V Z) (hi : i < N) :
    ∃ z0 z1 z2 z3 z4 B, wr.heap[bl]? = some (.cells (flat V i ++ [z0, z1, z2, z3, z4] ++ B).toArray 34 (0, 0)) ∧ B.length = (N - (i + 1)) * 5 ∧ (flat V i).length = i * 5 := by
  have hl := flat_len V i h.hv
  obtain ⟨z0, z1, z2, z3, z4, B, hZ, hB⟩ := five_of (Z := Z) (by rw [h.zl]; omega)
  refine ⟨z0, z1, z2, z3, z4, B, ?_, ?_, hl⟩
  · rw [List.append_assoc, ← hZ]; exact h.row
  · have := h.zl; omega

def fiveSet (w : World) (b i : Nat) (y0 y1 y2 y3 y4 : Value) : World := ((((w.setCell ⟨b, i * 5, none⟩ y0).setCell ⟨b, i * 5 + 1, none⟩ y1).setCell ⟨b, i * 5 + 2, none⟩ y2).setCell ⟨b, i * 5 + 3, none⟩ y3).setCell ⟨b, i * 5 + 4, none⟩ y4

theorem fiveSet_facts (w : World) (b i : Nat) (y0 y1 y2 y3 y4 : Value) : (∀ c, c ≠ b → (fiveSet w b i y0 y1 y2 y3 y4).heap[c]? = w.heap[c]?) ∧ (fiveSet w b i y0 y1 y2 y3 y4).heap.size = w.heap.size ∧ Below b w (fiveSet w b i y0 y1 y2 y3 y4) := by
  refine ⟨fun c hc => ?_, by simp [fiveSet], ?_⟩
  · unfold fiveSet
    rw [heap_setCell_other _ _ _ _ hc, heap_setCell_other _ _ _ _ hc, heap_setCell_other _ _ _ _ hc, heap_setCell_other _ _ _ _ hc, heap_setCell_other _ _ _ _ hc]
  · unfold fiveSet
    exact (((((Below.refl b w).setCell (p := ⟨b, i * 5, none⟩) (Nat.le_refl _) y0).setCell (p := ⟨b, i * 5 + 1, none⟩) (Nat.le_refl _) y1).setCell (p := ⟨b, i * 5 + 2, none⟩) (Nat.le_refl _) y2).setCell (p := ⟨b, i * 5 + 3, none⟩) (Nat.le_refl _) y3).setCell (p := ⟨b, i * 5 + 4, none⟩) (Nat.le_refl _) y4

/-- one more group is laid -/
theorem LRow.next {w3 wr u : World} {bl i N : Nat} {l : List Vl} {V : Nat → List Value} {Z B : List Value} {z0 z1 z2 z3 z4 y0 y1 y2 y3 y4 : Value} (h : LRow w3 wr bl i N l V Z) (hi : i < N)
    (hub : Below bl wr u) (huo : ∀ c, bl < c → c < wr.heap.size → u.heap[c]? = wr.heap[c]?) (hur : u.heap[bl]? = some (.cells (flat V i ++ [z0, z1, z2, z3, z4] ++ B).toArray 34 (0, 0))) (hB : B.length = (N - (i + 1)) * 5)
    (hm : l.length ≤ i → [y0, y1, y2, y3, y4] = markV) (hy : ∀ y, l[i]? = some y → Ln u (fun b => bl < b ∧ b < u.heap.size) y (.agg #[y0, y1, y2, y3, y4])) :
    LRow w3 (fiveSet u bl i y0 y1 y2 y3 y4) bl (i + 1) N l (putV V i [y0, y1, y2, y3, y4]) B := by
  have hl := flat_len V i h.hv
  obtain ⟨f1, f2, f3⟩ := fiveSet_facts u bl i y0 y1 y2 y3 y4
  have hsz : wr.heap.size ≤ u.heap.size := hub.size
  refine ⟨?_, hB, fun j hj => ?_, fun j hj1 hj2 => ?_, fun j y hjy hj => ?_, h.below.trans (hub.trans f3), by have := h.lt; omega⟩
  · rw [flat_put]
    exact five_row u bl i _ _ B z0 z1 z2 z3 z4 y0 y1 y2 y3 y4 hl hur
  · by_cases e : j = i
    · subst e; rw [putV_at]; rfl
    · rw [putV_ne V i j _ e]; exact h.hv j (by omega)
  · by_cases e : j = i
    · subst e; rw [putV_at]; exact hm hj1
    · rw [putV_ne V i j _ e]; exact h.hm j hj1 (by omega)
  · by_cases e : j = i
    · subst e
      rw [putV_at]
      exact (hy y hjy).to (fun b hb => f1 b (by omega)) (fun b hb => ⟨hb.1, by omega⟩)
    · rw [putV_ne V i j _ e]
      exact (h.el j y hjy (by omega)).to (fun b hb => (f1 b (by omega)).trans (huo b hb.1 hb.2)) (fun b hb => ⟨hb.1, by omega⟩)

/-- what is known of the list of keys that is being lent -/
structure KRow (w5 wr : World) (bk i M : Nat) (ks : List ByteArray) (Z : List Value) : Prop where
  row : wr.heap[bk]? = some (.cells ((rowK ks).take i ++ Z).toArray 9 (0, 0))
  zl : Z.length = M - i
  below : Below bk w5 wr
  lt : bk < wr.heap.size

theorem rowK_len (ks : List ByteArray) : (rowK ks).length = ks.length + 4 := by simp [rowK]
theorem rowK_at (ks : List ByteArray) (i : Nat) (t : ByteArray) (h : ks[i]? = some t) : (rowK ks)[i]? = some (.string t) := by
  have hi := (List.getElem?_eq_some_iff.1 h).1
  unfold rowK
  rw [List.getElem?_append_left (by simpa using hi), List.getElem?_map, h]
  rfl
theorem rowK_mark (ks : List ByteArray) (i : Nat) (h1 : ks.length ≤ i) (h2 : i < ks.length + 4) : (rowK ks)[i]? = some markK := by
  unfold rowK
  rw [List.getElem?_append_right (by simpa using h1), List.length_map]
  obtain ⟨j, rfl⟩ : ∃ j, i = ks.length + j := ⟨i - ks.length, by omega⟩
  rw [Nat.add_sub_cancel_left]
  match j, (show j < 4 by omega) with
  | 0, _ => rfl
  | 1, _ => rfl
  | 2, _ => rfl
  | 3, _ => rfl

theorem set_one (A B : List Value) (i : Nat) (z y : Value) (hA : A.length = i) : (A ++ z :: B).toArray.setIfInBounds i y = (A ++ y :: B).toArray := by
  subst hA
  apply Array.ext'
  simp

theorem KRow.at {w5 wr : World} {bk i M : Nat} {ks : List ByteArray} {Z : List Value} (h : KRow w5 wr bk i M ks Z) (hM : M = ks.length + 4) (hi : i < M) :
    ∃ z B, Z = z :: B ∧ B.length = M - (i + 1) ∧ wr.cell? ⟨bk, i, none⟩ = some z ∧ wr.frozen? ⟨bk, i, none⟩ = false := by
  have hz := h.zl
  match Z, hz with
  | [], hz => simp at hz; omega
  | z :: B, hz =>
    refine ⟨z, B, rfl, by simp at hz; omega, ?_, frozen_of_row wr bk i _ _ h.row⟩
    rw [cell_of_row wr bk i _ _ (0, 0) h.row, List.getElem?_toArray, List.getElem?_append_right (by rw [List.length_take, rowK_len]; omega), List.length_take, rowK_len, Nat.min_eq_left (by omega), Nat.sub_self]
    rfl

theorem KRow.next {w5 wr u : World} {bk i M : Nat} {ks : List ByteArray} {z y : Value} {B : List Value} (h : KRow w5 wr bk i M ks (z :: B)) (hM : M = ks.length + 4) (hi : i < M) (hu : u.heap[bk]? = some (.cells ((rowK ks).take i ++ z :: B).toArray 9 (0, 0))) (hub : Below bk wr u) (hy : (rowK ks)[i]? = some y) :
    KRow w5 (u.setCell ⟨bk, i, none⟩ y) bk (i + 1) M ks B := by
  have hl : ((rowK ks).take i).length = i := by rw [List.length_take, rowK_len]; omega
  refine ⟨?_, by have := h.zl; simp at this; omega, h.below.trans (hub.setCell (p := ⟨bk, i, none⟩) (Nat.le_refl _) _), by have := h.lt; have := hub.size; simp; omega⟩
  rw [heap_setCell_same u bk i _ _ y hu, set_one _ B i z y hl, List.take_add_one, hy]
  simp
end Go.Proofs.Ytlmgiimgmjbkeaa

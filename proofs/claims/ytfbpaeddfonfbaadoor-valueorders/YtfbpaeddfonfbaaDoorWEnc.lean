/-
  When two values are the same, field by field; no conditions.
-/
import Derived.Test.YtfbpaeddfonfbaaDoorVMeas
namespace Go.Proofs.YtfbpaeddfonfbaaDoor
open Go.RowKit

/-! ### Are two values the same? -/
def sameL : List Vl → List Vl → Bool
  | [], _ => true
  | _ :: _, [] => true
  | .mk k n s l q :: xs, .mk k' n' s' l' q' :: ys => (decide (k = k') && decide (n = n') && (s.toList == s'.toList) && decide (l.length = l'.length) && decide (q = q') && sameL l l') && sameL xs ys
def sameB : Vl → Vl → Bool
  | .mk k n s l ks, .mk k' n' s' l' ks' => decide (k = k') && decide (n = n') && (s.toList == s'.toList) && decide (l.length = l'.length) && decide (ks = ks') && sameL l l'
theorem sameL_nil (l : List Vl) : sameL [] l = true := by simp only [sameL]
theorem sameL_cons (x : Vl) (xs : List Vl) (y : Vl) (ys : List Vl) : sameL (x :: xs) (y :: ys) = (sameB x y && sameL xs ys) := by
  cases x
  cases y
  simp only [sameL, sameB]

theorem bytes_beq (a b : ByteArray) : (a.toList == b.toList) = true ↔ a = b := by
  rw [beq_iff_eq, ByteArray.toList_eq, ByteArray.toList_eq]
  exact ⟨Go.WideShapes.bytes_inj, fun h => by rw [h]⟩

theorem sameB_iff_of {k n : Int} {s : ByteArray} {l : List Vl} {ks : List ByteArray} {k' n' : Int} {s' : ByteArray} {l' : List Vl} {ks' : List ByteArray} (h : l.length = l'.length → (sameL l l' = true ↔ l = l')) : sameB (.mk k n s l ks) (.mk k' n' s' l' ks') = true ↔ Vl.mk k n s l ks = .mk k' n' s' l' ks' := by
  simp only [sameB, Bool.and_eq_true, decide_eq_true_eq, bytes_beq, Vl.mk.injEq]
  constructor
  · rintro ⟨⟨⟨⟨⟨h1, h2⟩, h3⟩, h4⟩, h5⟩, h6⟩
    exact ⟨h1, h2, h3, (h h4).1 h6, h5⟩
  · rintro ⟨h1, h2, h3, h4, h5⟩
    exact ⟨⟨⟨⟨⟨h1, h2⟩, h3⟩, by rw [h4]⟩, h5⟩, (h (by rw [h4])).2 h4⟩
theorem sameL_iff : ∀ (l l' : List Vl), l.length = l'.length → (sameL l l' = true ↔ l = l')
  | [], [], _ => by simp [sameL_nil]
  | [], _ :: _, h => by simp at h
  | _ :: _, [], h => by simp at h
  | .mk k n s l q :: xs, .mk k' n' s' l' q' :: ys, h => by
    have h1 := sameB_iff_of (k := k) (n := n) (s := s) (ks := q) (k' := k') (n' := n') (s' := s') (ks' := q') (sameL_iff l l')
    have h2 := sameL_iff xs ys (by simpa using h)
    rw [sameL_cons, Bool.and_eq_true, h1, h2, List.cons.injEq]
theorem sameB_iff (a b : Vl) : sameB a b = true ↔ a = b := by
  cases a
  cases b
  exact sameB_iff_of (sameL_iff _ _)
end Go.Proofs.YtfbpaeddfonfbaaDoor

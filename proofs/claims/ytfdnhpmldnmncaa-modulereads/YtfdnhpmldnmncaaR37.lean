/-
  One constant more in a module that the document's own reader reads (scrupleref09); a value of nothing; no conditions.
-/
import Derived.Test.YtfdnhpmldnmncaaR35
import Derived.Test.YtfdnhpmldnmncaaR36
import Derived.Test.YtfdnhpmldnmncaaR28
namespace Go.Proofs.Ytfdnhpmldnmncaa
open Go.RowKit

/-- one constant more in the module -/
theorem RdQ.pushD {w0 w w7 w9 : World} {gm gr g7 cap7 lo n : Nat} {bv : Value} {p fl q : Int} {C F X : Value} {m : Md} {V : Nat → List Value} {y : Vl} {cs : List Value} (h : RdQ w0 w gm gr bv p fl q C F X m V) (hn : m.cs.length = n)
    (hF7 : ∀ b, b < w.heap.size → some b ≠ C.ownBlock → w7.heap[b]? = w.heap[b]?) (hs7 : w.heap.size ≤ w7.heap.size) (hB7 : Below gm w w7) (hat : C.ownBlock = some g7 ∨ w.heap.size ≤ g7)
    (hown : w9.ownsRow (gr + 1) 51 5 (.slice (some ⟨g7, 0, none⟩) (n + 1) cap7) (n + 1) (flat V n ++ cs)) (hbox : w9.heap[gm]? = some (.cells #[.slice (some ⟨g7, 0, none⟩) (n + 1) cap7, F, X] 28 (0, 0)))
    (hoth : ∀ b, b ≠ gm → b ≠ g7 → w9.heap[b]? = w7.heap[b]?) (hs9 : w9.heap.size = w7.heap.size) (hB9 : Below gm w7 w9) (hcs : cs.length = 5) (hx : IsQ w (fun b => lo ≤ b ∧ b < w.heap.size) y (.agg cs.toArray))
    (hlC : ∀ b, C.ownBlock = some b → b < lo) (hlF : ∀ b, F.ownBlock = some b → b < lo) (hlX : ∀ b, X.ownBlock = some b → b < lo) (hlg : gr < lo) :
    RdQ w0 w9 gm gr bv p fl q (.slice (some ⟨g7, 0, none⟩) (n + 1) cap7) F X ⟨m.cs ++ [y], m.fs, m.xs⟩ (setV V n cs) := by
  have hC := h.ownC.lt
  have h2 := h.two
  have hlr := h.lt
  have keep : ∀ b, b < w.heap.size → b ≠ gm → some b ≠ C.ownBlock → w9.heap[b]? = w.heap[b]? := fun b hb hng hnc => by
    rw [hoth b hng (fun e => ?_), hF7 b hb hnc]
    rcases hat with hat | hat
    · exact hnc (by rw [hat, e])
    · omega
  have ne7 : ∀ b, b < w.heap.size → some b ≠ C.ownBlock → b ≠ g7 := fun b hb hnc e => by
    rcases hat with hat | hat
    · exact hnc (by rw [hat, e])
    · omega
  refine ⟨?_, hbox, h.two, h.old.trans (hB7.trans hB9), ?_, ?_, ?_, ?_, ?_⟩
  · exact (keep gr hlr (by omega) (fun e => by have := (hC gr e.symm).1; omega)).trans h.rd
  · rw [List.length_append, List.length_singleton, hn, flat_set]
    exact hown
  · exact own_later h.ownF (fun b hl hv => keep b hl (by have := (h.ownF.lt b hv).1; omega) (own_apartM h.ownF h.ownC (by decide) b hv))
  · exact own_later h.ownX (fun b hl hv => keep b hl (by have := (h.ownX.lt b hv).1; omega) (own_apartM h.ownX h.ownC (by decide) b hv))
  · intro c hc
    rw [List.length_append, List.length_singleton, hn] at hc
    by_cases e : c = n
    · subst e; rw [setV_same]; exact hcs
    · rw [setV_other V n cs (by omega)]; exact h.row c (by omega)
  · intro c z hz
    have hown7 : ∀ b, some b ≠ (Value.slice (some ⟨g7, 0, none⟩) (n + 1) cap7).ownBlock ↔ b ≠ g7 := fun b => by simp [Value.ownBlock]
    by_cases e : c = n
    · subst e
      rw [setV_same]
      rw [List.getElem?_append_right (by omega), hn, Nat.sub_self] at hz
      have hzy : y = z := by simpa using hz
      subst hzy
      refine hx.to (fun b hP => keep b hP.2 (by omega) (fun e => by have := hlC b e.symm; omega)) (fun b hP => ⟨by omega, by omega, (hown7 b).2 (ne7 b hP.2 (fun e => by have := hlC b e.symm; omega)), fun e => by have := hlF b e.symm; omega, fun e => by have := hlX b e.symm; omega⟩)
    · have hc : c < n := by
        have := (List.getElem?_eq_some_iff.1 hz).1
        rw [List.length_append, List.length_singleton, hn] at this
        omega
      rw [setV_other V n cs hc]
      rw [List.getElem?_append_left (by omega)] at hz
      refine (h.el c z hz).to (fun b hP => keep b hP.2.1 (by have := hP.1; omega) hP.2.2.1) (fun b hP => ⟨hP.1, by have := hP.2.1; omega, (hown7 b).2 (ne7 b hP.2.1 hP.2.2.1), hP.2.2.2.1, hP.2.2.2.2⟩)

theorem zero_isP (w : World) (P : Nat → Prop) : IsQ w P (.mk 0 0 ⟨#[]⟩ [] []) (.agg #[.int .i64 0, .int .i64 0, .string ⟨#[]⟩, .slice none 0 0, .slice none 0 0]) :=
  ⟨IsP.of (V := fun _ => []) ⟨by omega, by omega, by decide, fun _ => ⟨rfl, rfl⟩, fun _ => ⟨rfl, rfl⟩, Nat.le_refl _, Nat.le_refl _, by simp, by simp, by simp, (fun a h => by cases h), (fun i h => by simp at h), (fun a h => by cases h), (fun t h => by cases h)⟩ (fun i y h => by simp at h), Ty.leaf ⟨0, 0, ⟨#[]⟩, rfl⟩ _⟩
end Go.Proofs.Ytfdnhpmldnmncaa

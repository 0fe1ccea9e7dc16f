/-
  Put of a key that a table of whole numbers has not, behind all that it has; no conditions but that the row's bytes are within 2^47.
-/
import Derived.Test.YtflopmhjgamcfaaTFindI
import Derived.Test.YtflopmhjgamcfaaTInsI
namespace Go.Proofs.Ytflopmhjgamcfaa
open Go.RowKit

/-- what a call that works on one table leaves as it was -/
structure Turns (w w' : World) (g : Nat) (v : Value) : Prop where
  os : w'.os = w.os
  tape : w'.tape = w.tape
  output : w'.output = w.output
  size : w.heap.size ≤ w'.heap.size
  block : ∀ k, k < w.heap.size → k ≠ g → some k ≠ v.ownBlock → w'.heap[k]? = w.heap[k]?

theorem Turns.below {w w' : World} {g : Nat} {v : Value} (h : Turns w w' g v) {B : Nat} (hB : B ≤ w.heap.size) (hg : B ≤ g) (hv : ∀ b, v.ownBlock = some b → B ≤ b) : Below B w w' :=
  ⟨h.os, h.tape, h.output, h.size, fun k hk => h.block k (by omega) (by omega) (fun e => by have := hv k e.symm; omega)⟩

set_option maxRecDepth 100000 in
theorem put_endI {base g : Nat} {v : Value} {l : List (Int × Int)} {w : World} (h : TabI w base g v l) (hg : some g ≠ v.ownBlock) (hr : RisesI l) (k x : Int) (hk : ∀ p ∈ l, p.1 < k) (hb : (l.length + 1) * 16 ≤ 140737488355328) (hbase : base ≤ w.heap.size) :
    Calls Try.prog 23 #[.pointer (some ⟨g, 0, none⟩), .int .i64 k, .int .i64 x] w fun e w' => ∃ v', e = .returned (.bool false) ∧ TabI w' base g v' (l ++ [(k, x)]) ∧ some g ≠ v'.ownBlock ∧ (∀ b, v'.ownBlock = some b → v.ownBlock = some b ∨ w.heap.size ≤ b) ∧ Turns w w' g v := by
  have CF := hide (find_I h hr k)
  have HH := hide h
  have HK := hide hk
  clear hr hk
  go_enter Try.func23, Try.ntmps23
  go_wp2_with fail
  refine (unhide CF).mono ?_
  rintro e w1 ⟨L, rfl, hL, hlow, q, rfl⟩
  obtain rfl : L = l.length := by
    rcases Nat.lt_or_ge L l.length with hlt | hge
    · have hp := List.getElem?_eq_getElem hlt
      have := (hlow L _ hp).2 (unhide HK _ (List.getElem_mem _))
      omega
    · omega
  rw [List.getElem?_eq_none (by simp)]
  have c0 : (w.drewN q).cell? ⟨g, 0, none⟩ = some v := h.cell
  clear CF hL hlow h
  go_wp2_with fail
  obtain ⟨w2, hw2⟩ : ∃ w2, (w.drewN q).alloc (.cells #[.int .i64 k, .int .i64 x] 71) = w2 := ⟨_, rfl⟩
  have M := new_pair (w.drewN q) (.int .i64 k) (.int .i64 x) 71
  rw [hw2] at M ⊢
  obtain ⟨m1, m2, m3⟩ := M
  have m1' : w2.heap[w.heap.size]? = some (.cells #[.int .i64 k, .int .i64 x] 71 (0, 0)) := m1
  have m2' : Below w.heap.size w w2 := ⟨m2.os, m2.tape, m2.output, m2.size, m2.block⟩
  have m3' : w2.heap.size = w.heap.size + 1 := m3
  have ho := own_below (unhide HH).row m2'
  have CI := insert_endI base v (.int .i64 k) (.int .i64 x) (valsI l) w.heap.size w2 ho m1' rfl rfl (by rw [valsI_len]; exact hb) (by omega)
  rw [valsI_len] at CI
  have HM := hide (And.intro m2' m3')
  clear hw2 m1 m2 m3 m1' m2' m3' ho c0
  refine CI.mono ?_
  rintro e w3 ⟨v3, rfl, o3, gr3⟩
  have g3 := gr3.grown
  obtain ⟨a3, c3', rfl⟩ := slice_of o3
  have gl : g < w.heap.size := (Array.getElem?_eq_some_iff.1 (unhide HH).here).1
  have e2 : w2.heap[g]? = some (.cells #[v] 73 (0, 0)) := ((unhide HM).1.block g gl).trans (unhide HH).here
  have e3 : w3.heap[g]? = some (.cells #[v] 73 (0, 0)) := (g3.block g (by have := (unhide HM).2; omega) hg).trans e2
  have c3 : w3.cell? ⟨g, 0, none⟩ = some v := by rw [cell_of_row w3 g 0 _ _ (0, 0) e3]; rfl
  have HO := hide (And.intro o3 (And.intro g3 e3))
  have f3 := frozen_of e3
  clear CI o3 g3 e2 e3
  go_wp2_with fail
  go_ret
  obtain ⟨o3, g3, e3⟩ := unhide HO
  have hn : some g ≠ (Value.slice a3 (l.length + 1) c3').ownBlock := fun e => by
    rcases gr3.row g e.symm with h | h
    · exact hg h.symm
    · have := (unhide HM).2
      omega
  refine ⟨.slice a3 (l.length + 1) c3', rfl, ⟨?_, ?_⟩, hn, fun b hb => ?_, ?_⟩
  · have := heap_setCell_same w3 g 0 _ _ (.slice a3 (l.length + 1) c3') e3
    exact this
  · have hl : (valsI (l ++ [(k, x)])) = valsI l ++ [(.int .i64 k, .int .i64 x)] := by simp [valsI]
    rw [hl, List.length_append, valsI_len]
    refine ⟨o3.1, ?_⟩
    rcases o3.2 with h | ⟨b, cap, cur, hv, hb', hg', rest⟩
    · exact .inl h
    · refine .inr ⟨b, cap, cur, hv, hb', ?_, rest⟩
      rw [heap_setCell_other _ _ _ _ (fun e => hn (by rw [hv]; simp [Value.ownBlock, e]))]
      exact hg'
  · rcases gr3.row b hb with h | h
    · exact Or.inl h
    · exact Or.inr (by have := (unhide HM).2; omega)
  · have b2 := (unhide HM).1
    refine ⟨?_, ?_, ?_, ?_, fun j hj hne hnv => ?_⟩
    · exact g3.os.trans b2.os
    · exact g3.tape.trans b2.tape
    · exact g3.output.trans b2.output
    · have := g3.size
      have := b2.size
      simp
      omega
    · rw [heap_setCell_other _ _ _ _ hne, g3.block j (by have := b2.size; omega) hnv, b2.block j hj]
end Go.Proofs.Ytflopmhjgamcfaa

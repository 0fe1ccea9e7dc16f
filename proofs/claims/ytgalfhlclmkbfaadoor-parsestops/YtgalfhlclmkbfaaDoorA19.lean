/-
  Layer 17 (parse): what read defers: a fault that was panicked with becomes the answer; no conditions.
-/
import Derived.Test.YtgalfhlclmkbfaaDoorA18
import Derived.Defers
import Derived.Recover
import Derived.Laws.Pointers
set_option linter.unusedVariables false
set_option linter.unusedSimpArgs false
namespace Go.Proofs.YtgalfhlclmkbfaaDoor
open Go.RowKit
set_option linter.unusedVariables false
set_option linter.unusedSimpArgs false

theorem as_flt (v : Value) (w : World) : (Instr.typeAssert (.iface 51 v) 20 51 false).run Tryd.prog w = .ok v w := by kernel_rfl

/-- a node of zeros -/
def ndZ : Array Value := #[.int .i64 0, .string ⟨#[]⟩, .int .i64 0, .int .i64 0, .string ⟨#[]⟩, .slice none 0 0, .slice none 0 0, .bool false, .slice none 0 0, .int .i64 0]

/-- what lies in the three boxes of the results -/
structure B3 (g : Nat) (n : Array Value) (p c : Int) (w : World) : Prop where
  b0 : w.heap[g]? = some (.cells n 33 (0, 0))
  b1 : w.heap[g + 1]? = some (.cells #[.int .i64 p] 3 (0, 0))
  b2 : w.heap[g + 2]? = some (.cells #[.int .i64 c] 24 (0, 0))

theorem B3.drew {g : Nat} {n : Array Value} {p c : Int} {w : World} (h : B3 g n p c w) : B3 g n p c w.drew := ⟨h.b0, h.b1, h.b2⟩
theorem b3_set {g : Nat} {x0 x1 x2 x3 x4 x5 x6 x7 x8 x9 : Value} {p0 c0 : Int} {w1 : World} (h : B3 g #[x0, x1, x2, x3, x4, x5, x6, x7, x8, x9] p0 c0 w1) (v0 v1 v2 v3 v4 v5 v6 v7 v8 v9 : Value) (q c : Int) :
    B3 g #[v0, v1, v2, v3, v4, v5, v6, v7, v8, v9] q c ((((((((((((w1.setCell ⟨g, 0, none⟩ v0).setCell ⟨g, 1, none⟩ v1).setCell ⟨g, 2, none⟩ v2).setCell ⟨g, 3, none⟩ v3).setCell ⟨g, 4, none⟩ v4).setCell ⟨g, 5, none⟩ v5).setCell ⟨g, 6, none⟩ v6).setCell ⟨g, 7, none⟩ v7).setCell ⟨g, 8, none⟩ v8).setCell ⟨g, 9, none⟩ v9).setCell ⟨g + 1, 0, none⟩ (.int .i64 q)).setCell ⟨g + 2, 0, none⟩ (.int .i64 c)) := by
  have P0 := set10 h.b0 v0 v1 v2 v3 v4 v5 v6 v7 v8 v9
  have P1 : ∀ b, b ≠ g → ((((((((((w1.setCell ⟨g, 0, none⟩ v0).setCell ⟨g, 1, none⟩ v1).setCell ⟨g, 2, none⟩ v2).setCell ⟨g, 3, none⟩ v3).setCell ⟨g, 4, none⟩ v4).setCell ⟨g, 5, none⟩ v5).setCell ⟨g, 6, none⟩ v6).setCell ⟨g, 7, none⟩ v7).setCell ⟨g, 8, none⟩ v8).setCell ⟨g, 9, none⟩ v9).heap[b]? = w1.heap[b]? := fun b hb => by
    iterate 10 rw [heap_setCell_other _ _ _ _ hb]
  generalize ((((((((((w1.setCell ⟨g, 0, none⟩ v0).setCell ⟨g, 1, none⟩ v1).setCell ⟨g, 2, none⟩ v2).setCell ⟨g, 3, none⟩ v3).setCell ⟨g, 4, none⟩ v4).setCell ⟨g, 5, none⟩ v5).setCell ⟨g, 6, none⟩ v6).setCell ⟨g, 7, none⟩ v7).setCell ⟨g, 8, none⟩ v8).setCell ⟨g, 9, none⟩ v9) = u at P0 P1 ⊢
  have D1 := (P1 (g + 1) (by omega)).trans h.b1
  have D2 := (P1 (g + 2) (by omega)).trans h.b2
  refine ⟨?_, ?_, ?_⟩
  · rw [heap_setCell_other _ _ _ _ (show g ≠ g + 2 by omega), heap_setCell_other _ _ _ _ (show g ≠ g + 1 by omega)]
    exact P0
  · rw [heap_setCell_other _ _ _ _ (show g + 1 ≠ g + 2 by omega), heap_setCell_same _ (g + 1) 0 _ _ _ D1]
    rfl
  · have D3 : (u.setCell ⟨g + 1, 0, none⟩ (.int .i64 q)).heap[g + 2]? = some (.cells #[.int .i64 c0] 24 (0, 0)) := by rw [heap_setCell_other _ _ _ _ (show g + 2 ≠ g + 1 by omega)]; exact D2
    rw [heap_setCell_same _ (g + 2) 0 _ _ _ D3]
    rfl
theorem b3_oth {g : Nat} {w1 : World} (v0 v1 v2 v3 v4 v5 v6 v7 v8 v9 y z : Value) : (∀ b, b ≠ g → b ≠ g + 1 → b ≠ g + 2 → ((((((((((((w1.setCell ⟨g, 0, none⟩ v0).setCell ⟨g, 1, none⟩ v1).setCell ⟨g, 2, none⟩ v2).setCell ⟨g, 3, none⟩ v3).setCell ⟨g, 4, none⟩ v4).setCell ⟨g, 5, none⟩ v5).setCell ⟨g, 6, none⟩ v6).setCell ⟨g, 7, none⟩ v7).setCell ⟨g, 8, none⟩ v8).setCell ⟨g, 9, none⟩ v9).setCell ⟨g + 1, 0, none⟩ y).setCell ⟨g + 2, 0, none⟩ z).heap[b]? = w1.heap[b]?) ∧ Below g w1 ((((((((((((w1.setCell ⟨g, 0, none⟩ v0).setCell ⟨g, 1, none⟩ v1).setCell ⟨g, 2, none⟩ v2).setCell ⟨g, 3, none⟩ v3).setCell ⟨g, 4, none⟩ v4).setCell ⟨g, 5, none⟩ v5).setCell ⟨g, 6, none⟩ v6).setCell ⟨g, 7, none⟩ v7).setCell ⟨g, 8, none⟩ v8).setCell ⟨g, 9, none⟩ v9).setCell ⟨g + 1, 0, none⟩ y).setCell ⟨g + 2, 0, none⟩ z) := by
  refine ⟨fun b h0 h1 h2 => ?_, ?_⟩
  · rw [heap_setCell_other _ _ _ _ h2, heap_setCell_other _ _ _ _ h1]
    iterate 10 rw [heap_setCell_other _ _ _ _ h0]
  · have e : ∀ (x : World) (b f : Nat) (v : Value), g ≤ b → Below g w1 x → Below g w1 (x.setCell ⟨b, f, none⟩ v) := fun x b f v hb hx => hx.setCell (p := ⟨b, f, none⟩) hb v
    refine e _ _ _ _ (by omega) (e _ _ _ _ (by omega) ?_)
    iterate 10 refine e _ _ _ _ (Nat.le_refl _) ?_
    exact Below.refl _ _

set_option maxRecDepth 100000 in
set_option maxHeartbeats 4000000 in
theorem catch_flt (g : Nat) (x0 x1 x2 x3 x4 x5 x6 x7 x8 x9 : Value) (p0 c0 : Int) (c q : Int) (older : List PanicEntry) (w : World) (h : B3 g #[x0, x1, x2, x3, x4, x5, x6, x7, x8, x9] p0 c0 w) :
    CallsD Tryd.prog 23 #[.pointer (some ⟨g, 0, none⟩), .pointer (some ⟨g + 1, 0, none⟩), .pointer (some ⟨g + 2, 0, none⟩)] (.panicking ({ v := .iface 51 (.agg #[.int .i64 c, .int .i64 q]), recovered := false } :: older)) w fun e u' w' =>
      e = .returned (.tuple #[]) ∧ u' = .panicking ({ v := .iface 51 (.agg #[.int .i64 c, .int .i64 q]), recovered := true } :: older) ∧ B3 g ndZ q c w' ∧ Below g w w' := by
  obtain ⟨G, hG⟩ : ∃ G, w.heap.size = G := ⟨_, rfl⟩
  have z0 : g < G := by rw [← hG]; exact (Array.getElem?_eq_some_iff.1 h.b0).1
  have z1 : g + 1 < G := by rw [← hG]; exact (Array.getElem?_eq_some_iff.1 h.b1).1
  have z2 : g + 2 < G := by rw [← hG]; exact (Array.getElem?_eq_some_iff.1 h.b2).1
  refine callsD_of_wpS Tryd.func23 rfl fun c₀ cs hu => ?_
  apply wpS_seq
  apply wpS_region
  simp [wpOpsS, go_sem, recoverD, hu, Tryd.ntmps23, Exit.thenS]
  apply wpS_seq
  apply wpS_region
  simp [wpOpsS, go_sem, Exit.thenS, Array.replicate]
  refine wpS_cond (t := true) (by simp [Act.eval]) ?_
  simp only [if_true]
  apply wpS_seq
  apply wpS_region
  simp [wpOpsS, go_sem, as_flt, Exit.thenS]
  obtain ⟨w1, hw1⟩ : ∃ w1, w.alloc (.cells #[.int .i64 c, .int .i64 q] 51) = w1 := ⟨_, rfl⟩
  have A1 : w1.heap[G]? = some (.cells #[.int .i64 c, .int .i64 q] 51 (0, 0)) := by rw [← hw1, ← hG]; exact heap_alloc_new _ _
  have B1 : Below w.heap.size w w1 := by rw [← hw1]; exact (Below.refl _ _).alloc (Nat.le_refl _) _
  have D0 := (B1.block g (by omega)).trans h.b0
  have D1 := (B1.block (g + 1) (by omega)).trans h.b1
  have D2 := (B1.block (g + 2) (by omega)).trans h.b2
  rw [hw1, hG]
  have a0 : w1.cell? ⟨G, 0, none⟩ = some (.int .i64 c) := by simp [World.cell?, A1]
  have a1 : w1.cell? ⟨G, 1, none⟩ = some (.int .i64 q) := by simp [World.cell?, A1]
  obtain ⟨e0, e1, e2, e3, e4, e5, e6, e7, e8, e9⟩ := row_cell10 D0
  obtain ⟨f0, f1, f2, f3, f4, f5, f6, f7, f8, f9⟩ := frozen10 D0
  have k1 : w1.cell? ⟨g + 1, 0, none⟩ = some (.int .i64 p0) := by simp [World.cell?, D1]
  have k2 : w1.cell? ⟨g + 2, 0, none⟩ = some (.int .i64 c0) := by simp [World.cell?, D2]
  have m1 := frozen_of_row w1 (g + 1) 0 _ _ D1
  have m2 := frozen_of_row w1 (g + 2) 0 _ _ D2
  have HD := hide (And.intro D0 (And.intro D1 (And.intro D2 B1)))
  have HZ := hide (And.intro z0 (And.intro z1 (And.intro z2 hG)))
  clear D0 D1 D2 A1 B1 h hw1
  refine wpS_of_wp ?_
  go_region
  obtain ⟨D0, D1, D2, B1⟩ := unhide HD
  clear HD HZ
  simp [bodyPostS, results, Tryd.results23]
  have b3 : Below g w w1 := ⟨B1.os, B1.tape, B1.output, B1.size, fun k hk => B1.block k (by omega)⟩
  exact ⟨(b3_set ⟨D0, D1, D2⟩ _ _ _ _ _ _ _ _ _ _ _ _).drew, (b3.trans (b3_oth _ _ _ _ _ _ _ _ _ _ _ _).2).drew⟩

theorem catch_none (g : Nat) (w : World) :
    CallsD Tryd.prog 23 #[.pointer (some ⟨g, 0, none⟩), .pointer (some ⟨g + 1, 0, none⟩), .pointer (some ⟨g + 2, 0, none⟩)] .returning w fun e u' w' => e = .returned (.tuple #[]) ∧ u' = .returning ∧ w' = w := by
  refine callsD_of_wpS Tryd.func23 rfl fun c₀ cs hu => ?_
  apply wpS_seq
  apply wpS_region
  simp [wpOpsS, go_sem, recoverD, hu, Tryd.ntmps23, Exit.thenS]
  apply wpS_seq
  apply wpS_region
  simp [wpOpsS, go_sem, Exit.thenS, Array.replicate]
  refine wpS_cond (t := false) (by simp [Act.eval]) ?_
  simp only [Bool.false_eq_true, if_false]
  refine wpS_of_wp (wp_skip ?_)
  cases c₀
  simp_all [bodyPostS, results, Tryd.results23]
end Go.Proofs.YtgalfhlclmkbfaaDoor

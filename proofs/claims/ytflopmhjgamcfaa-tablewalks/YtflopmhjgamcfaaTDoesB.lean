/-
  One step of a script over tables; no conditions but that the rows' bytes are within 2^47.
-/
import Derived.Test.YtflopmhjgamcfaaTAllI
import Derived.Test.YtflopmhjgamcfaaTTilt
namespace Go.Proofs.Ytflopmhjgamcfaa
open Go.RowKit
set_option linter.unusedVariables false

set_option maxRecDepth 100000 in
theorem pick_I (i : Int) (n : Nat) (hn : 0 < n) (hn2 : n ≤ 1000) (w : World) : Calls Try.prog 28 #[.int .i64 i, .int .i64 n] w fun e w' => ∃ j : Nat, j < n ∧ e = .returned (.int .i64 j) ∧ w' = w := by
  have z1 : ¬ (n : Int) = 0 := by omega
  have z2 : ¬ (n : Int) = -1 := by omega
  obtain ⟨t, ht⟩ : ∃ t, Int.tmod i (n : Int) = t := ⟨_, rfl⟩
  have t1 : t < (n : Int) := by rw [← ht]; exact Int.tmod_lt_of_pos i (by omega)
  have t2 : -(n : Int) < t := by
    have h := Int.tmod_lt_of_pos (-i) (show (0 : Int) < (n : Int) by omega)
    rw [Int.neg_tmod, ht] at h
    omega
  go_enter Try.func28, Try.ntmps28
  by_cases h0 : t < 0
  · go_wp2_with fail
    go_ret
    obtain ⟨j, hj⟩ : ∃ j : Nat, (j : Int) = t + (n : Int) := ⟨(t + n).toNat, by omega⟩
    exact ⟨j, by omega, by rw [hj]; rfl, rfl⟩
  · go_wp2_with fail
    go_ret
    obtain ⟨j, hj⟩ : ∃ j : Nat, (j : Int) = t := ⟨t.toNat, by omega⟩
    exact ⟨j, by omega, by rw [hj]; rfl, rfl⟩

/-- what a step leaves: all right, one longer at the most -/
def DoesPost (I : Nat → Obj → Prop) (w : World) (N : Nat) (e : Ending) (w' : World) : Prop := ∃ av' es', e = .returned (.tuple #[av', .bool true]) ∧ AllT I w w' av' es' (N + 1) ∧ (∀ a ∈ es', a.l = a.m) ∧ 1 ≤ es'.length ∧ es'.length ≤ 6

/-- a step's variable in memory, and what stands beside it -/
structure Stp (wr u : World) (G : Nat) (kd on k x : Int) : Prop where
  box : u.heap[G]? = some (.cells #[.int .i64 kd, .int .i64 on, .int .i64 k, .int .i64 x] 36 (0, 0))

theorem stp_cells {u : World} {G : Nat} {a b c d : Value} {T : TypeId} (h : u.heap[G]? = some (.cells #[a, b, c, d] T (0, 0))) : u.cell? ⟨G, 0, none⟩ = some a ∧ u.cell? ⟨G, 1, none⟩ = some b ∧ u.cell? ⟨G, 2, none⟩ = some c ∧ u.cell? ⟨G, 3, none⟩ = some d :=
  ⟨by rw [cell_of_row u G 0 _ _ (0, 0) h]; rfl, by rw [cell_of_row u G 1 _ _ (0, 0) h]; rfl, by rw [cell_of_row u G 2 _ _ (0, 0) h]; rfl, by rw [cell_of_row u G 3 _ _ (0, 0) h]; rfl⟩

theorem all_cells {I : Nat → Obj → Prop} {w u : World} {A cap : Nat} {es : List Ent} {N : Nat} (h : AllT I w u (.slice (some ⟨A, 0, none⟩) es.length cap) es N) {i : Nat} {e : Ent} (he : es[i]? = some e) : u.cell? ⟨A, i * 2, none⟩ = some (.pointer (some ⟨e.g, 0, none⟩)) ∧ u.cell? ⟨A, i * 2 + 1, none⟩ = some e.r := by
  obtain ⟨h0, h1⟩ := cells2_at (es.map Ent.vals) i e.vals (by rw [List.getElem?_map, he]; rfl)
  have c0 := h.row.cells rfl _ _ h0
  have c1 := h.row.cells rfl _ _ h1
  rw [add_at] at c0 c1
  exact ⟨c0, c1⟩

theorem infoP : (Try.prog.info? 29).map (fun i => (i.zero, i.size, i.bytes)) = some (some (.agg #[.pointer none, .slice none 0 0]), 2, 32) := by kernel_rfl

end Go.Proofs.Ytflopmhjgamcfaa

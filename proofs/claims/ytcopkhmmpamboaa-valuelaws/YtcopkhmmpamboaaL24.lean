/-
  slices.Clone of texts and of values: the same cells in new memory; conditions: the form's own reach.
-/
import Derived.Test.YtcopkhmmpamboaaL13
namespace Go.Proofs.Ytcopkhmmpamboaa
open Go.RowKit
set_option linter.unusedVariables false
set_option linter.unusedSimpArgs false

/-- the cells that a slice shows -/
structure Shows (w : World) (ao : Option Addr) (len cap size : Nat) (xs : List Value) : Prop where
  length : xs.length = len * size
  none : ao = none → len = 0 ∧ cap = 0
  cells : ∀ a, ao = some a → ∀ j u, xs[j]? = some u → w.cell? (a.add j) = some u
  one : ∀ u ∈ xs, u.oneCell' = true

theorem made0 (w : World) (e : TypeId) (size : Nat) : (w.alloc (.cells #[] e)).ownsRow w.heap.size e size (.slice (some ⟨w.heap.size, 0, none⟩) 0 0) 0 [] :=
  World.ownsRow_made (base := w.heap.size) w #[] 0 (Nat.le_refl _) (Nat.zero_le _) (by simp)

set_option maxRecDepth 100000 in
set_option maxHeartbeats 400000 in
theorem cloneS (ao : Option Addr) (len cap : Nat) (xs : List Value) (w : World) (h : Shows w ao len cap 1 xs) (hb : len * 16 ≤ 140737488355328) :
    Calls Try.prog 34 #[.slice ao len cap] w fun e w' => ∃ v', e = .returned v' ∧ w'.ownsRow w.heap.size 9 1 v' len xs ∧ Below w.heap.size w w' := by
  cases ao with
  | none =>
    obtain ⟨rfl, rfl⟩ := h.none rfl
    obtain rfl : xs = [] := List.eq_nil_of_length_eq_zero (by simpa using h.length)
    clear h
    have he : ∀ w : World, (binOp .eql 25 (.slice none 0 0) (.slice none 0 0)).run Try.prog w = .ok (.bool true) w := fun _ => rfl
    go_enter Try.func34, Try.ntmps34
    go_wp2_with fail
    go_ret
    exact ⟨_, rfl, World.ownsRow_nil _ _ _ _, Below.refl _ _⟩
  | some a =>
    obtain ⟨i0, hi, hz0, hz1, hz2⟩ := info_parts infoSc
    have HI := hide (And.intro hi (And.intro hz0 (And.intro hz1 hz2)))
    have B1 : Below w.heap.size w (w.alloc (.cells #[] 9)) := (Below.refl _ _).alloc (Nat.le_refl _) _
    have HB1 := hide B1
    have HM := hide (made0 w 9 1)
    have HC : Hid (∀ j u, xs[j]? = some u → (w.alloc (.cells #[] 9)).cell? (a.add j) = some u) := hide (fun j u hu => by
      have h1 := h.cells a rfl j u hu
      rw [B1.cell (World.block_lt_of_cell? _ _ (by rw [h1]))]
      exact h1)
    have HX := hide (And.intro h.length h.one)
    have he : ∀ w : World, (binOp .eql 25 (.slice (some a) len cap) (.slice none 0 0)).run Try.prog w = .ok (.bool false) w := fun _ => rfl
    clear hi hz0 hz1 hz2 B1 h
    go_enter Try.func34, Try.ntmps34
    go_wp2_with (first | (at_builtin; refine wpList_append_own _ rfl (.tmp 5) (.tmp 6) 25 rfl w.heap.size 9 i0 (.string ⟨#[]⟩) 1 16 Try.underlying25 (unhide HI).1 (unhide HI).2.1 (unhide HI).2.2.1 (unhide HI).2.2.2 rfl (by omega) _ 0 [] rfl (unhide HM) a len cap xs rfl (unhide HX).1 (unhide HC) (unhide HX).2 (by unfold maxLen; omega) (by omega) (by simp) ?_; intro v2 w2 hown2 hgrow2 _; have H2 := hide (And.intro hown2 hgrow2); clear hown2 hgrow2))
    go_ret
    obtain ⟨ho, hg⟩ := unhide H2
    refine ⟨_, rfl, by simpa using ho, (unhide HB1).grown hg (by simp) (fun k hk => ?_)⟩
    cases hk
    exact Nat.le_refl _
set_option maxRecDepth 100000 in
set_option maxHeartbeats 400000 in
theorem cloneV (ao : Option Addr) (len cap : Nat) (xs : List Value) (w : World) (h : Shows w ao len cap 5 xs) (hb : len * 80 ≤ 140737488355328) :
    Calls Try.prog 35 #[.slice ao len cap] w fun e w' => ∃ v', e = .returned v' ∧ w'.ownsRow w.heap.size 27 5 v' len xs ∧ Below w.heap.size w w' := by
  cases ao with
  | none =>
    obtain ⟨rfl, rfl⟩ := h.none rfl
    obtain rfl : xs = [] := List.eq_nil_of_length_eq_zero (by simpa using h.length)
    clear h
    have he : ∀ w : World, (binOp .eql 24 (.slice none 0 0) (.slice none 0 0)).run Try.prog w = .ok (.bool true) w := fun _ => rfl
    go_enter Try.func35, Try.ntmps35
    go_wp2_with fail
    go_ret
    exact ⟨_, rfl, World.ownsRow_nil _ _ _ _, Below.refl _ _⟩
  | some a =>
    obtain ⟨i0, hi, hz0, hz1, hz2⟩ := info_parts infoVc
    have HI := hide (And.intro hi (And.intro hz0 (And.intro hz1 hz2)))
    have B1 : Below w.heap.size w (w.alloc (.cells #[] 27)) := (Below.refl _ _).alloc (Nat.le_refl _) _
    have HB1 := hide B1
    have HM := hide (made0 w 27 5)
    have HC : Hid (∀ j u, xs[j]? = some u → (w.alloc (.cells #[] 27)).cell? (a.add j) = some u) := hide (fun j u hu => by
      have h1 := h.cells a rfl j u hu
      rw [B1.cell (World.block_lt_of_cell? _ _ (by rw [h1]))]
      exact h1)
    have HX := hide (And.intro h.length h.one)
    have he : ∀ w : World, (binOp .eql 24 (.slice (some a) len cap) (.slice none 0 0)).run Try.prog w = .ok (.bool false) w := fun _ => rfl
    clear hi hz0 hz1 hz2 B1 h
    go_enter Try.func35, Try.ntmps35
    go_wp2_with (first | (at_builtin; refine wpList_append_own _ rfl (.tmp 5) (.tmp 6) 24 rfl w.heap.size 27 i0 (.agg #[.int .i64 0, .int .i64 0, .string ⟨#[]⟩, .slice none 0 0, .slice none 0 0]) 5 80 Try.underlying24 (unhide HI).1 (unhide HI).2.1 (unhide HI).2.2.1 (unhide HI).2.2.2 rfl (by omega) _ 0 [] rfl (unhide HM) a len cap xs rfl (unhide HX).1 (unhide HC) (unhide HX).2 (by unfold maxLen; omega) (by omega) (by simp) ?_; intro v2 w2 hown2 hgrow2 _; have H2 := hide (And.intro hown2 hgrow2); clear hown2 hgrow2))
    go_ret
    obtain ⟨ho, hg⟩ := unhide H2
    refine ⟨_, rfl, by simpa using ho, (unhide HB1).grown hg (by simp) (fun k hk => ?_)⟩
    cases hk
    exact Nat.le_refl _
end Go.Proofs.Ytcopkhmmpamboaa

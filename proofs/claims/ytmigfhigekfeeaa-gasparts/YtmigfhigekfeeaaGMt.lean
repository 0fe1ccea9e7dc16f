/-
  A meter in memory, and what gas's functions answer of one (layer 11); no conditions.
-/
import Derived.Test.YtmigfhigekfeeaaHid
import Derived.Test.YtmigfhigekfeeaaChecked
import Derived.WalkKit
import Derived.WalkSpells
import Derived.OpenShut
import Derived.Below
import Derived.Deep.QuietTactic
import Derived.BigQuiet
import Derived.LoopTactic
import Derived.Deep.RegionHeld3
import Derived.WalkSmall
import Derived.Laws.Cover1
import Derived.Lib.Builder
namespace Go.Proofs.Ytmigfhigekfeeaa
open Go.RowKit

theorem below_drewN {B : Nat} {w w' : World} (h : Below B w w') (q : Nat) : Below B w (w'.drewN q) := ⟨h.os, h.tape, h.output, h.size, h.block⟩

/-- the cells of a meter -/
def mtC (lim left : Int) (sp : Bool) (out : Option Addr) : Array Value := #[.int .i64 lim, .int .i64 left, .bool sp, .pointer out]

/-- a meter in memory -/
def Mt (w : World) (g : Nat) (lim left : Int) (sp : Bool) (out : Option Addr) : Prop := w.heap[g]? = some (.cells (mtC lim left sp out) 52 (0, 0))

section
variable {w w' : World} {g : Nat} {lim left : Int} {sp : Bool} {out : Option Addr}

theorem Mt.cells (h : Mt w g lim left sp out) : w.cell? ⟨g, 0, none⟩ = some (.int .i64 lim) ∧ w.cell? ⟨g, 1, none⟩ = some (.int .i64 left) ∧ w.cell? ⟨g, 2, none⟩ = some (.bool sp) ∧ w.cell? ⟨g, 3, none⟩ = some (.pointer out) :=
  ⟨by rw [cell_of_row w _ 0 _ _ (0, 0) h]; rfl, by rw [cell_of_row w _ 1 _ _ (0, 0) h]; rfl, by rw [cell_of_row w _ 2 _ _ (0, 0) h]; rfl, by rw [cell_of_row w _ 3 _ _ (0, 0) h]; rfl⟩

theorem Mt.free (h : Mt w g lim left sp out) (k : Nat) : w.frozen? ⟨g, k, none⟩ = false := frozen_of_row w g k _ _ h

theorem Mt.lt (h : Mt w g lim left sp out) : g < w.heap.size := (Array.getElem?_eq_some_iff.1 h).1

theorem Mt.later (h : Mt w g lim left sp out) (he : w'.heap[g]? = w.heap[g]?) : Mt w' g lim left sp out := he.trans h

theorem Mt.setLeft (h : Mt w g lim left sp out) (n : Int) : Mt (w.setCell ⟨g, 1, none⟩ (.int .i64 n)) g lim n sp out := heap_setCell_same w g 1 _ _ _ h
theorem Mt.setSpent (h : Mt w g lim left sp out) (s : Bool) : Mt (w.setCell ⟨g, 2, none⟩ (.bool s)) g lim left s out := heap_setCell_same w g 2 _ _ _ h
theorem Mt.setOut (h : Mt w g lim left sp out) (o : Option Addr) : Mt (w.setCell ⟨g, 3, none⟩ (.pointer o)) g lim left sp o := heap_setCell_same w g 3 _ _ _ h
end

/-- all blocks but one as before -/
structure Beside (gr : Nat) (w w' : World) : Prop where
  os : w'.os = w.os
  tape : w'.tape = w.tape
  output : w'.output = w.output
  size : w.heap.size ≤ w'.heap.size
  block : ∀ k, k < w.heap.size → k ≠ gr → w'.heap[k]? = w.heap[k]?

theorem Beside.refl (gr : Nat) (w : World) : Beside gr w w := ⟨rfl, rfl, rfl, Nat.le_refl _, fun _ _ _ => rfl⟩
theorem Beside.trans {gr : Nat} {w w1 w2 : World} (h : Beside gr w w1) (h' : Beside gr w1 w2) : Beside gr w w2 :=
  ⟨h'.os.trans h.os, h'.tape.trans h.tape, h'.output.trans h.output, Nat.le_trans h.size h'.size, fun k hk hn => (h'.block k (Nat.lt_of_lt_of_le hk h.size) hn).trans (h.block k hk hn)⟩
theorem Beside.of_below {gr : Nat} {w w' : World} (h : Below w.heap.size w w') : Beside gr w w' :=
  ⟨h.os, h.tape, h.output, h.size, fun k hk _ => h.block k hk⟩
theorem Beside.below {gr B : Nat} {w w' : World} (h : Beside gr w w') (hB : B ≤ gr) (hs : B ≤ w.heap.size) : Below B w w' :=
  ⟨h.os, h.tape, h.output, h.size, fun k hk => h.block k (by omega) (by omega)⟩
theorem Beside.drew {gr : Nat} {w w' : World} (h : Beside gr w w') (n : Nat) : Beside gr w (w'.drewN n) :=
  h.trans (Beside.of_below (below_drewN (Below.refl _ _) n))
theorem Beside.set {gr f : Nat} {w w' : World} {v : Value} (h : Beside gr w w') : Beside gr w (w'.setCell ⟨gr, f, none⟩ v) := by
  have hb := (Below.refl 0 w').setCell (p := ⟨gr, f, none⟩) (Nat.zero_le _) v
  exact ⟨hb.os.trans h.os, hb.tape.trans h.tape, hb.output.trans h.output, Nat.le_trans h.size hb.size, fun k hk hn => by rw [heap_setCell_other _ _ _ _ hn]; exact h.block k hk hn⟩
theorem Mt.beside {w w' : World} {g gr : Nat} {lim left : Int} {sp : Bool} {out : Option Addr} (h : Mt w g lim left sp out) (hb : Beside gr w w') (hn : g ≠ gr) : Mt w' g lim left sp out := h.later (hb.block g h.lt hn)
theorem Mt.below {w w' : World} {g : Nat} {lim left : Int} {sp : Bool} {out : Option Addr} (h : Mt w g lim left sp out) (hb : Below w.heap.size w w') : Mt w' g lim left sp out := h.later (hb.block g h.lt)

set_option maxRecDepth 100000 in
theorem full_any (n : Int) (w : World) : Calls Try.prog 17 #[.int .i64 n] w fun e w' => e = .returned (.pointer (some ⟨w.heap.size, 0, none⟩)) ∧ w' = w.alloc (.cells (mtC n n false none) 52) := by
  go_enter Try.func17, Try.ntmps17
  go_wp2_with fail
  go_ret
  exact ⟨rfl, rfl⟩

/-- may a meter have this limit -/
def alwB (n : Int) : Bool := decide (0 ≤ n ∧ n ≤ 1000000)

theorem alw_yes {n : Int} (h0 : 0 ≤ n) (h1 : n ≤ 1000000) : alwB n = true := by simp [alwB, h0, h1]
theorem alw_no {n : Int} (h : n < 0 ∨ 1000000 < n) : alwB n = false := by simp [alwB]; omega
theorem of_alw {n : Int} (h : alwB n = true) : 0 ≤ n ∧ n ≤ 1000000 := by simpa [alwB] using h
theorem of_not_alw {n : Int} (h : alwB n = false) : n < 0 ∨ 1000000 < n := by simp [alwB] at h; omega

set_option maxRecDepth 100000 in
theorem allowed_any (n : Int) (w : World) : Calls Try.prog 16 #[.int .i64 n] w fun e w' => e = .returned (.bool (alwB n)) ∧ w' = w := by
  by_cases h0 : n < 0
  · rw [alw_no (.inl h0)]
    go_enter Try.func16, Try.ntmps16
    go_wp2_with fail
    go_ret
    exact ⟨rfl, rfl⟩
  · have h0' : 0 ≤ n := by omega
    by_cases h1 : n ≤ 1000000
    · rw [alw_yes h0' h1]
      go_enter Try.func16, Try.ntmps16
      go_wp2_with fail
      go_ret
      exact ⟨rfl, rfl⟩
    · rw [alw_no (.inr (by omega))]
      go_enter Try.func16, Try.ntmps16
      go_wp2_with fail
      go_ret
      exact ⟨rfl, rfl⟩

set_option maxRecDepth 100000 in
theorem new_ok (n : Int) (w : World) (h : alwB n = true) : Calls Try.prog 7 #[.int .i64 n] w fun e w' => e = .returned (.tuple #[.pointer (some ⟨w.heap.size, 0, none⟩), .int .i64 0]) ∧ w' = w.alloc (.cells (mtC n n false none) 52) := by
  go_enter Try.func7, Try.ntmps7
  go_wp2_with fail
  refine (allowed_any _ _).mono ?_
  rintro e w1 ⟨rfl, rfl⟩
  go_wp2_with fail
  refine (full_any _ _).mono ?_
  rintro e w2 ⟨rfl, rfl⟩
  go_wp2_with fail
  go_ret2
  exact ⟨rfl, rfl⟩

set_option maxRecDepth 100000 in
theorem new_no (n : Int) (w : World) (h : alwB n = false) : Calls Try.prog 7 #[.int .i64 n] w fun e w' => e = .returned (.tuple #[.pointer none, .int .i64 110]) ∧ w' = w := by
  go_enter Try.func7, Try.ntmps7
  go_wp2_with fail
  refine (allowed_any _ _).mono ?_
  rintro e w1 ⟨rfl, rfl⟩
  go_wp2_with fail
  go_ret2
  exact ⟨rfl, rfl⟩

section
variable {w : World} {g : Nat} {lim left : Int} {sp : Bool} {out : Option Addr}

set_option maxRecDepth 100000 in
theorem charge_none (n : Int) (w : World) : Calls Try.prog 10 #[.pointer none, .int .i64 n] w fun e w' => e = .returned (.bool false) ∧ w' = w := by
  go_enter Try.func10, Try.ntmps10
  go_wp2_with fail
  go_ret
  exact ⟨rfl, rfl⟩

set_option maxRecDepth 100000 in
theorem charge_neg (n : Int) (hn : n < 0) (g : Nat) (w : World) : Calls Try.prog 10 #[.pointer (some ⟨g, 0, none⟩), .int .i64 n] w fun e w' => e = .returned (.bool false) ∧ w' = w := by
  go_enter Try.func10, Try.ntmps10
  go_wp2_with fail
  go_ret
  exact ⟨rfl, rfl⟩

set_option maxRecDepth 100000 in
theorem charge_spent (n : Int) (hn : 0 ≤ n) (h : Mt w g lim left true out) : Calls Try.prog 10 #[.pointer (some ⟨g, 0, none⟩), .int .i64 n] w fun e w' => e = .returned (.bool false) ∧ w' = w := by
  obtain ⟨c0, c1, c2, c3⟩ := h.cells
  have hg := h.lt
  clear h
  go_enter Try.func10, Try.ntmps10
  go_wp2_with fail
  go_ret
  exact ⟨rfl, rfl⟩

set_option maxRecDepth 100000 in
theorem charge_over (n : Int) (hn : 0 ≤ n) (hl : left < n) (h : Mt w g lim left false out) : Calls Try.prog 10 #[.pointer (some ⟨g, 0, none⟩), .int .i64 n] w fun e w' => e = .returned (.bool false) ∧ w' = (w.setCell ⟨g, 1, none⟩ (.int .i64 0)).setCell ⟨g, 2, none⟩ (.bool true) := by
  obtain ⟨c0, c1, c2, c3⟩ := h.cells
  have hg := h.lt
  have f1 := h.free 1
  have f2 := h.free 2
  clear h
  go_enter Try.func10, Try.ntmps10
  go_wp2_with fail
  go_ret
  exact ⟨rfl, rfl⟩

set_option maxRecDepth 100000 in
theorem charge_ok (n : Int) (hn : 0 ≤ n) (hl : n ≤ left) (hm : left ≤ 1000000) (h : Mt w g lim left false out) : Calls Try.prog 10 #[.pointer (some ⟨g, 0, none⟩), .int .i64 n] w fun e w' => e = .returned (.bool true) ∧ w' = w.setCell ⟨g, 1, none⟩ (.int .i64 (left - n)) := by
  obtain ⟨c0, c1, c2, c3⟩ := h.cells
  have hg := h.lt
  have f1 := h.free 1
  have f2 := h.free 2
  clear h
  go_enter Try.func10, Try.ntmps10
  go_wp2_with fail
  go_ret
  exact ⟨rfl, rfl⟩

set_option maxRecDepth 100000 in
theorem left_none (w : World) : Calls Try.prog 12 #[.pointer none] w fun e w' => e = .returned (.int .i64 0) ∧ w' = w := by
  go_enter Try.func12, Try.ntmps12
  go_wp2_with fail
  go_ret
  exact ⟨rfl, rfl⟩

set_option maxRecDepth 100000 in
theorem left_any (h : Mt w g lim left sp out) : Calls Try.prog 12 #[.pointer (some ⟨g, 0, none⟩)] w fun e w' => e = .returned (.int .i64 left) ∧ w' = w := by
  obtain ⟨c0, c1, c2, c3⟩ := h.cells
  have hg := h.lt
  clear h
  go_enter Try.func12, Try.ntmps12
  go_wp2_with fail
  go_ret
  exact ⟨rfl, rfl⟩

set_option maxRecDepth 100000 in
theorem used_none (w : World) : Calls Try.prog 13 #[.pointer none] w fun e w' => e = .returned (.int .i64 0) ∧ w' = w := by
  go_enter Try.func13, Try.ntmps13
  go_wp2_with fail
  go_ret
  exact ⟨rfl, rfl⟩

set_option maxRecDepth 100000 in
theorem used_any (h : Mt w g lim left sp out) (h0 : 0 ≤ left) (h1 : left ≤ 1000000) (h2 : 0 ≤ lim) (h3 : lim ≤ 1000000) : Calls Try.prog 13 #[.pointer (some ⟨g, 0, none⟩)] w fun e w' => e = .returned (.int .i64 (lim - left)) ∧ ∃ q, w' = w.drewN q := by
  obtain ⟨c0, c1, c2, c3⟩ := h.cells
  have hg := h.lt
  clear h
  go_enter Try.func13, Try.ntmps13
  go_wp2_with fail
  go_quiet (fail)
  go_wp2_with fail
  go_ret
  exact ⟨rfl, _, rfl⟩

set_option maxRecDepth 100000 in
theorem spent_none (w : World) : Calls Try.prog 11 #[.pointer none] w fun e w' => e = .returned (.bool false) ∧ w' = w := by
  go_enter Try.func11, Try.ntmps11
  go_wp2_with fail
  go_ret
  exact ⟨rfl, rfl⟩

set_option maxRecDepth 100000 in
theorem spent_any (h : Mt w g lim left sp out) : Calls Try.prog 11 #[.pointer (some ⟨g, 0, none⟩)] w fun e w' => e = .returned (.bool sp) ∧ w' = w := by
  obtain ⟨c0, c1, c2, c3⟩ := h.cells
  have hg := h.lt
  clear h
  go_enter Try.func11, Try.ntmps11
  go_wp2_with fail
  go_ret
  exact ⟨rfl, rfl⟩

set_option maxRecDepth 100000 in
theorem free_any (lim left : Int) (sp : Bool) (w : World) : Calls Try.prog 22 #[.agg #[.int .i64 lim, .int .i64 left, .bool sp]] w fun e w' => e = .returned (.int .i64 (if sp then 0 else left)) ∧ Below w.heap.size w w' := by
  cases sp
  · go_enter Try.func22, Try.ntmps22
    go_wp2_with fail
    go_ret
    exact ⟨rfl, (Below.refl _ _).alloc (Nat.le_refl _) _⟩
  · go_enter Try.func22, Try.ntmps22
    go_wp2_with fail
    go_ret
    exact ⟨rfl, (Below.refl _ _).alloc (Nat.le_refl _) _⟩

set_option maxRecDepth 100000 in
theorem part_none (n : Int) (w : World) : Calls Try.prog 14 #[.pointer none, .int .i64 n] w fun e w' => e = .returned (.tuple #[.pointer none, .int .i64 1]) ∧ w' = w := by
  go_enter Try.func14, Try.ntmps14
  go_wp2_with fail
  go_ret2
  exact ⟨rfl, rfl⟩

set_option maxRecDepth 100000 in
theorem part_no (n : Int) (hn : alwB n = false) (g : Nat) (w : World) : Calls Try.prog 14 #[.pointer (some ⟨g, 0, none⟩), .int .i64 n] w fun e w' => e = .returned (.tuple #[.pointer none, .int .i64 110]) ∧ w' = w := by
  go_enter Try.func14, Try.ntmps14
  go_wp2_with fail
  refine (allowed_any _ _).mono ?_
  rintro e w1 ⟨rfl, rfl⟩
  go_wp2_with fail
  go_ret2
  exact ⟨rfl, rfl⟩

set_option maxRecDepth 100000 in
theorem join_none (p : Option Addr) (w : World) : Calls Try.prog 15 #[.pointer none, .pointer p] w fun e w' => e = .returned (.int .i64 1) ∧ w' = w := by
  go_enter Try.func15, Try.ntmps15
  go_wp2_with fail
  go_ret
  exact ⟨rfl, rfl⟩

set_option maxRecDepth 100000 in
theorem part_out (n : Int) (hn : alwB n = true) {a : Addr} (h : Mt w g lim left sp (some a)) : Calls Try.prog 14 #[.pointer (some ⟨g, 0, none⟩), .int .i64 n] w fun e w' => e = .returned (.tuple #[.pointer none, .int .i64 112]) ∧ w' = w := by
  obtain ⟨c0, c1, c2, c3⟩ := h.cells
  have hg := h.lt
  clear h
  go_enter Try.func14, Try.ntmps14
  go_wp2_with fail
  refine (allowed_any _ _).mono ?_
  rintro e w1 ⟨rfl, rfl⟩
  go_wp2_with fail
  go_ret2
  exact ⟨rfl, rfl⟩

/-- what a part may have -/
def room (n left : Int) (sp : Bool) : Int := min n (if sp then 0 else left)

set_option maxRecDepth 100000 in
set_option maxHeartbeats 400000 in
theorem part_at (n F r : Int) (hn : alwB n = true) (h : Mt w g lim left sp none) (h0 : 0 ≤ left) (h1 : left ≤ 1000000) (hF : (if sp then 0 else left) = F) (r0 : 0 ≤ r) (r1 : r ≤ left) (hr : (n ≤ F ∧ r = n) ∨ (F < n ∧ r = F)) : Calls Try.prog 14 #[.pointer (some ⟨g, 0, none⟩), .int .i64 n] w fun e w' => ∃ p, e = .returned (.tuple #[.pointer (some ⟨p, 0, none⟩), .int .i64 0]) ∧ w.heap.size ≤ p ∧ Mt w' g lim (left - r) sp (some ⟨p, 0, none⟩) ∧ Mt w' p r r false none ∧ Beside g w w' := by
  obtain ⟨c0, c1, c2, c3⟩ := h.cells
  have hg := h.lt
  have HM := hide h
  have CF : Hid _ := hide (free_any lim left sp)
  rw [hF] at CF
  clear h hF
  rcases hr with ⟨hr, rfl⟩ | ⟨hr, rfl⟩
  all_goals
    go_enter Try.func14, Try.ntmps14
    go_wp2_with fail
    refine (allowed_any _ _).mono ?_
    rintro e w1 ⟨rfl, rfl⟩
    go_wp2_with fail
    refine (unhide CF _).mono ?_
    rintro e w2 ⟨rfl, b2⟩
    have M2 := (unhide HM).below b2
    have HB := hide b2
    have HM2 := hide M2
    clear c0 c1 c2 c3 b2
    obtain ⟨c0, c1, c2, c3⟩ := M2.cells
    have hg2 := M2.lt
    have f1 := M2.free 1
    clear M2
    go_wp2_with fail
    refine (full_any _ _).mono ?_
    rintro e w4 ⟨rfl, hw4⟩
    obtain ⟨w3, hw3⟩ : ∃ w3, w2.setCell ⟨g, 1, none⟩ (.int .i64 (left - r)) = w3 := ⟨_, rfl⟩
    rw [hw3] at hw4 ⊢
    have M3 : Mt w3 g lim (left - r) sp none := by rw [← hw3]; exact (unhide HM2).setLeft _
    have B3 : Beside g w1 w3 := by rw [← hw3]; exact (Beside.of_below (unhide HB)).set
    obtain ⟨p, hp⟩ : ∃ p, w3.heap.size = p := ⟨_, rfl⟩
    have M4 : Mt w4 g lim (left - r) sp none := by rw [hw4]; exact M3.later (heap_alloc_old _ _ M3.lt)
    have P4 : Mt w4 p r r false none := by rw [hw4, ← hp]; exact heap_alloc_new _ _
    have B4 : Beside g w1 w4 := by rw [hw4]; exact B3.trans (Beside.of_below ((Below.refl _ _).alloc (Nat.le_refl _) _))
    have hpg : g ≠ p := by have := M3.lt; omega
    have hpw : w1.heap.size ≤ p := by have := B3.size; omega
    rw [hp]
    clear hw3 hw4 M3 B3 HM2 HB c0 c1 c2 c3 f1 hg2 hp HM CF
    obtain ⟨c0, c1, c2, c3⟩ := M4.cells
    have hg4 := M4.lt
    have f3 := M4.free 3
    have HX := hide (And.intro M4 (And.intro P4 B4))
    clear M4 P4 B4
    go_wp2_with fail
    go_ret2
    exact ⟨p, rfl, hpw, (unhide HX).1.setOut _, (unhide HX).2.1.later (heap_setCell_other _ _ _ _ (Ne.symm hpg)), (unhide HX).2.2.set⟩

theorem part_ok (n : Int) (hn : alwB n = true) (h : Mt w g lim left sp none) (h0 : 0 ≤ left) (h1 : left ≤ 1000000) : Calls Try.prog 14 #[.pointer (some ⟨g, 0, none⟩), .int .i64 n] w fun e w' => ∃ p, e = .returned (.tuple #[.pointer (some ⟨p, 0, none⟩), .int .i64 0]) ∧ w.heap.size ≤ p ∧ Mt w' g lim (left - room n left sp) sp (some ⟨p, 0, none⟩) ∧ Mt w' p (room n left sp) (room n left sp) false none ∧ Beside g w w' := by
  obtain ⟨hn0, hn1⟩ := of_alw hn
  refine part_at n _ (room n left sp) hn h h0 h1 rfl ?_ ?_ ?_
  · unfold room; split <;> omega
  · unfold room; split <;> omega
  · unfold room
    rcases Int.le_total n (if sp then 0 else left) with e | e
    · exact .inl ⟨e, by omega⟩
    · rcases Int.lt_or_eq_of_le e with e | e
      · exact .inr ⟨e, by omega⟩
      · exact .inl ⟨by omega, by omega⟩

set_option maxRecDepth 100000 in
theorem join_nil (g : Nat) (w : World) : Calls Try.prog 15 #[.pointer (some ⟨g, 0, none⟩), .pointer none] w fun e w' => e = .returned (.int .i64 1) ∧ w' = w := by
  go_enter Try.func15, Try.ntmps15
  go_wp2_with fail
  go_ret
  exact ⟨rfl, rfl⟩

set_option maxRecDepth 100000 in
set_option maxHeartbeats 400000 in
theorem join_ok {p : Nat} {lim2 left2 : Int} {sp2 : Bool} (h : Mt w g lim left sp (some ⟨p, 0, none⟩)) (h' : Mt w p lim2 left2 sp2 none) (hgp : g ≠ p) (h0 : 0 ≤ left) (h1 : left ≤ 1000000) (h2 : 0 ≤ left2) (h3 : left2 ≤ 1000000) :
    Calls Try.prog 15 #[.pointer (some ⟨g, 0, none⟩), .pointer (some ⟨p, 0, none⟩)] w fun e w' => e = .returned (.int .i64 0) ∧ Mt w' g lim (left + left2) sp none ∧ Mt w' p lim2 0 sp2 none ∧ w'.heap.size = w.heap.size ∧ (∀ b, b ≠ g → b ≠ p → w'.heap[b]? = w.heap[b]?) ∧ (∀ B, B ≤ g → B ≤ p → Below B w w') := by
  obtain ⟨c0, c1, c2, c3⟩ := h.cells
  obtain ⟨d0, d1, d2, d3⟩ := h'.cells
  have hg := h.lt
  have hp := h'.lt
  have f1 := h.free 1
  have f3 := h.free 3
  have e1 := h'.free 1
  have HG := hide h
  have HP := hide h'
  clear h h'
  obtain ⟨j, hj⟩ := Option.isSome_iff_exists.1 (show (Try.prog.info? 52).isSome = true by kernel_rfl)
  have hne := Lib.run_neq_ptr_same (P := Try.prog) w ⟨p, 0, none⟩ Try.underlying23 hj
  clear hj
  go_enter Try.func15, Try.ntmps15
  go_wp2_with fail
  go_region
  obtain ⟨u, hu⟩ : ∃ u, (w.setCell ⟨g, 1, none⟩ (.int .i64 (left + left2))).drew = u := ⟨_, rfl⟩
  have G1 : Mt u g lim (left + left2) sp (some ⟨p, 0, none⟩) := by rw [← hu]; exact (unhide HG).setLeft _
  have P1 : Mt u p lim2 left2 sp2 none := by rw [← hu]; exact (unhide HP).later (heap_setCell_other _ _ _ _ (Ne.symm hgp))
  have Z1 : u.heap.size = w.heap.size := by rw [← hu]; simp
  have E1 : ∀ b, b ≠ g → u.heap[b]? = w.heap[b]? := fun b hb => by rw [← hu]; exact heap_setCell_other _ _ _ _ hb
  have B1 : ∀ B, B ≤ g → Below B w u := fun B hB => by rw [← hu]; exact below_drewN ((Below.refl B w).setCell (p := ⟨g, 1, none⟩) hB _) 1
  rw [hu]
  clear hu c0 c1 c2 c3 d0 d1 d2 d3 f1 f3 e1 hg hp
  obtain ⟨c0, c1, c2, c3⟩ := G1.cells
  obtain ⟨d0, d1, d2, d3⟩ := P1.cells
  have hg := G1.lt
  have hp := P1.lt
  have f3 := G1.free 3
  have e1 := P1.free 1
  have HX := hide (And.intro G1 (And.intro P1 (And.intro Z1 (And.intro E1 B1))))
  have HGP := hide hgp
  clear G1 P1 Z1 E1 B1
  go_wp2_with fail
  go_ret
  obtain ⟨G1, P1, Z1, E1, B1⟩ := unhide HX
  refine ⟨rfl, ?_, ?_, by simpa using Z1, fun b hb hb' => ?_, fun B hB hB' => ?_⟩
  · exact (G1.later (heap_setCell_other _ _ _ _ hgp)).setOut none
  · exact ((P1.setLeft 0).later (heap_setCell_other _ _ _ _ (Ne.symm hgp)))
  · rw [heap_setCell_other _ _ _ _ hb, heap_setCell_other _ _ _ _ hb', E1 b hb]
  · exact ((B1 B hB).setCell (p := ⟨p, 1, none⟩) hB' _).setCell (p := ⟨g, 3, none⟩) hB _
end
end Go.Proofs.Ytmigfhigekfeeaa

/-
  The walks of measure, Right, Weight, Depth: a value's weight and depth, 0 of what is not right; no conditions but the form's own reach.
-/
import Derived.Test.YtfdnhpmldnmncaaVRight
import Derived.Laws.ResultCell
import Derived.Laws.EntriesVeiled
namespace Go.Proofs.Ytfdnhpmldnmncaa
open Go.RowKit

/-- is it right? -/
def rightB (v : Vl) : Bool := okB 8 v && decide (wt v ≤ 2048)
def wt0 (v : Vl) : Nat := if rightB v then wt v else 0
def dep0 (v : Vl) : Nat := if rightB v then dep v else 0

theorem dep_pos (v : Vl) : 1 ≤ dep v := by cases v; simp [dep]

theorem ret_cells {fn : Func} {p q : Tmp} (h : fn.results = #[.cell p 3, .cell q 3]) (tmps : Array Value) (w : World) (gp gq : Nat) (x y : Int) (hp : tmps.getD p undef = .pointer (some ⟨gp, 0, none⟩)) (hq : tmps.getD q undef = .pointer (some ⟨gq, 0, none⟩))
    (hx : w.cell? ⟨gp, 0, none⟩ = some (.int .i64 x)) (hy : w.cell? ⟨gq, 0, none⟩ = some (.int .i64 y)) : (results fn tmps).run Try.prog w = .ok (.tuple #[.int .i64 x, .int .i64 y]) w := by
  have hp' : tmps[p]?.getD undef = .pointer (some ⟨gp, 0, none⟩) := by simpa using hp
  have hq' : tmps[q]?.getD undef = .pointer (some ⟨gq, 0, none⟩) := by simpa using hq
  simp only [results, h]
  go_simp

set_option maxRecDepth 100000 in
set_option maxHeartbeats 400000 in
theorem measure_any (v : Vl) (x : Value) (B : Nat) (w : World) (hv : IsV w B v x) (hBs : B ≤ w.heap.size) :
    Calls Try.prog 61 #[x] w fun e w' => e = .returned (.tuple #[.int .i64 (wt0 v : Int), .int .i64 (dep0 v : Int)]) ∧ Below w.heap.size w w' := by
  obtain ⟨k', n', s', l', ks', al', ak', cl', ck', hy', hx⟩ := hv.shape
  obtain ⟨ll, hll⟩ : ∃ ll, l'.length = ll := ⟨_, rfl⟩
  obtain ⟨m, hm⟩ : ∃ m, ks'.length = m := ⟨_, rfl⟩
  rw [hll, hm] at hx
  subst hx
  obtain ⟨w1, hw1⟩ : ∃ w1, w.alloc (.cells #[.int .i64 k', .int .i64 n', .string s', .slice al' ll cl', .slice ak' m ck'] 51) = w1 := ⟨_, rfl⟩
  have BX := Box.mk' w (.int .i64 k') (.int .i64 n') (.string s') (.slice al' ll cl') (.slice ak' m ck')
  rw [hw1] at BX
  obtain ⟨g, hg⟩ : ∃ g, w.heap.size = g := ⟨_, rfl⟩
  have z1 := BX.size
  rw [hg] at z1
  obtain ⟨w2, hw2⟩ : ∃ w2, w1.alloc (.cells #[.int .i64 0] 3) = w2 := ⟨_, rfl⟩
  obtain ⟨w3, hw3⟩ : ∃ w3, w2.alloc (.cells #[.int .i64 0] 3) = w3 := ⟨_, rfl⟩
  obtain ⟨w4, hw4⟩ : ∃ w4, w3.alloc (.cells #[.nilFunc] 116) = w4 := ⟨_, rfl⟩
  have z2 : w2.heap.size = g + 2 := by rw [← hw2]; simp [z1]
  have z3 : w3.heap.size = g + 3 := by rw [← hw3]; simp [z2]
  have z4 : w4.heap.size = g + 4 := by rw [← hw4]; simp [z3]
  have b12 : Below w1.heap.size w1 w2 := by rw [← hw2]; exact (Below.refl _ _).alloc (Nat.le_refl _) _
  have b23 : Below w2.heap.size w2 w3 := by rw [← hw3]; exact (Below.refl _ _).alloc (Nat.le_refl _) _
  have b34 : Below w3.heap.size w3 w4 := by rw [← hw4]; exact (Below.refl _ _).alloc (Nat.le_refl _) _
  have r2 : w2.heap[g + 1]? = some (.cells #[.int .i64 0] 3 (0, 0)) := by rw [← hw2, ← z1]; exact heap_alloc_new w1 _
  have r3 : w3.heap[g + 2]? = some (.cells #[.int .i64 0] 3 (0, 0)) := by rw [← hw3, ← z2]; exact heap_alloc_new w2 _
  have r4 : w4.heap[g + 3]? = some (.cells #[.nilFunc] 116 (0, 0)) := by rw [← hw4, ← z3]; exact heap_alloc_new w3 _
  obtain ⟨w5, hw5⟩ : ∃ w5, w4.setCell ⟨g + 3, 0, none⟩ (.func (.func 72) #[] #[.pointer (some ⟨g + 2, 0, none⟩), .pointer (some ⟨g + 1, 0, none⟩), .pointer (some ⟨g + 3, 0, none⟩)]) = w5 := ⟨_, rfl⟩
  have z5 : w5.heap.size = g + 4 := by rw [← hw5]; simp [z4]
  have S5 : St w5 (g + 2) (g + 1) (g + 3) ((0 : Nat) : Int) ((0 : Nat) : Int) := by
    refine ⟨?_, ?_, ?_⟩
    · rw [← hw5, heap_setCell_other _ _ _ _ (by simp), b34.block _ (by omega)]; exact r3
    · rw [← hw5, heap_setCell_other _ _ _ _ (by simp), b34.block _ (by omega), b23.block _ (by omega)]; exact r2
    · rw [← hw5, heap_setCell_same w4 (g + 3) 0 _ _ _ r4]; rfl
  have P5 : Pl w5 g (g + 2) (g + 1) (g + 3) := ⟨by omega, by omega, by omega, by omega, by omega, by omega, by omega, by omega, by omega⟩
  have X5 : Below g w w5 := by
    have h := ((BX.below.trans (b12.mono (by omega))).trans (b23.mono (by omega))).trans (b34.mono (by omega))
    rw [hg] at h
    rw [← hw5]
    exact h.setCell (p := ⟨g + 3, 0, none⟩) (by show g ≤ g + 3; omega) _
  have R5 : w5.heap[g]? = some (.cells #[.int .i64 k', .int .i64 n', .string s', .slice al' ll cl', .slice ak' m ck'] 51 (0, 0)) := by
    rw [← hw5, heap_setCell_other _ _ _ _ (by simp), b34.block _ (by omega), b23.block _ (by omega), b12.block _ (by omega), ← hg]
    exact BX.row
  have q4 : w4.cell? ⟨g + 3, 0, none⟩ = some .nilFunc := (one_cell r4).1
  have f4 : w4.frozen? ⟨g + 3, 0, none⟩ = false := (one_cell r4).2
  have qr : w5.cell? ⟨g + 3, 0, none⟩ = some (.func (.func 72) #[] #[.pointer (some ⟨g + 2, 0, none⟩), .pointer (some ⟨g + 1, 0, none⟩), .pointer (some ⟨g + 3, 0, none⟩)]) := (one_cell S5.fn).1
  obtain ⟨c0, c1, c2, c3, c4⟩ := row_cell R5
  have CI := hide (right_any 8 v _ 1 0 0 g (g + 2) (g + 1) (g + 3) w5 (by omega) (by omega) ((hv.lift (by omega)).mono X5) (by omega) P5 S5 (by omega))
  have H := hide (And.intro P5 (And.intro X5 hy'))
  clear BX b12 b23 b34 r2 r3 r4 S5 P5 X5 R5 hv hy'
  rw [hg]
  simp only [Nat.zero_add] at CI
  obtain ⟨R, hR⟩ : ∃ R, (okB 8 v && decide (wt v ≤ 2048)) = R := ⟨_, rfl⟩
  rw [hR] at CI
  have HR := hide hR
  clear hR
  go_enter Try.func61, Try.ntmps61
  go_wp2_with fail
  refine (unhide CI).mono ?_
  rintro e w6 ⟨d', s', rfl, s6, b6, hok⟩
  have S6 := hide s6
  have X6 : Hid (Below g w w6) := hide ((unhide H).2.1.trans b6)
  have P6 : Hid (Pl w6 g (g + 2) (g + 1) (g + 3)) := hide ((unhide H).1.later b6.size)
  have HO := hide hok
  obtain ⟨qd, fd⟩ := one_cell s6.dep
  obtain ⟨qw, fw⟩ := one_cell s6.wgt
  clear s6 b6 hok CI c0 c1 c2 c3 c4 qr q4 f4 hw1 hw2 hw3 hw4 hw5
  cases R with
  | false =>
    have S7 := hide (((unhide S6).setW (unhide P6) 0).setD ((unhide P6).later (by simp)) 0)
    have X7 := hide (((unhide X6).setCell (p := ⟨g + 1, 0, none⟩) (by show g ≤ g + 1; omega) (.int .i64 0)).setCell (p := ⟨g + 2, 0, none⟩) (by show g ≤ g + 2; omega) (.int .i64 0))
    have hr : rightB v = false := unhide HR
    have HZ : Hid (wt0 v = 0 ∧ dep0 v = 0) := hide (by unfold wt0 dep0; rw [hr]; exact ⟨rfl, rfl⟩)
    clear hr
    go_wp2_with fail
    refine bodyPost_ret (ret_cells rfl _ _ (g + 1) (g + 2) 0 0 rfl rfl (one_cell (unhide S7).wgt).1 (one_cell (unhide S7).dep).1) rfl ⟨by rw [(unhide HZ).1, (unhide HZ).2]; rfl, unhide X7⟩
  | true =>
    obtain ⟨es, ed⟩ := unhide HO rfl
    subst es
    subst ed
    go_wp2_with fail
    go_region
    have hr : rightB v = true := unhide HR
    have HZ : Hid (wt0 v = wt v ∧ dep0 v = dep v) := hide (by unfold wt0 dep0; rw [hr]; exact ⟨rfl, rfl⟩)
    obtain ⟨W, hW⟩ : ∃ W : Nat, wt v = W := ⟨_, rfl⟩
    obtain ⟨D, hD⟩ : ∃ D : Nat, dep v = D := ⟨_, rfl⟩
    rw [hW, hD] at HZ
    rw [hW, hD]
    have S7 := hide (((unhide S6).setW (unhide P6) (W : Int)).setD ((unhide P6).later (by simp)) (D : Int))
    have X7 := hide ((((unhide X6).setCell (p := ⟨g + 1, 0, none⟩) (by show g ≤ g + 1; omega) (.int .i64 (W : Int))).setCell (p := ⟨g + 2, 0, none⟩) (by show g ≤ g + 2; omega) (.int .i64 (D : Int))).drew)
    clear hr HO S6
    go_wp2_with fail
    refine bodyPost_ret (ret_cells rfl _ _ (g + 1) (g + 2) (W : Int) (D : Int) rfl rfl (one_cell (unhide S7).wgt).1 (one_cell (unhide S7).dep).1) rfl ⟨by rw [(unhide HZ).1, (unhide HZ).2], unhide X7⟩
end Go.Proofs.Ytfdnhpmldnmncaa

/-
  The document's own reader of wire: its small steps, with the fault that it keeps; conditions: the weight so far is at most 2048, the form's own reach.
  Append of bytes onto a row of the call's own where the lengths together pass 2^47 by no more than a million; no other conditions.
-/
import Derived.Test.YtfdnhpmldnmncaaR09
import Derived.Test.YtfdnhpmldnmncaaR10
import Derived.Test.YtfdnhpmldnmncaaR06
import Derived.Deep.AppendLies
import Derived.Maps.AppendAt
namespace Go.Proofs.Ytfdnhpmldnmncaa
open Go.RowKit
set_option linter.unusedVariables false
set_option linter.unusedSimpArgs false

/-- the document's reader: its bytes, its place, the weight so far, the first fault and its place -/
def Rf (w : World) (gr : Nat) (bv : Value) (p t f q : Int) : Prop := w.heap[gr]? = some (.cells #[bv, .int .i64 p, .int .i64 t, .int .i64 f, .int .i64 q] 96 (0, 0))

theorem Rf.cells {w : World} {gr : Nat} {bv : Value} {p t f q : Int} (h : Rf w gr bv p t f q) :
    w.cell? ⟨gr, 0, none⟩ = some bv ∧ w.cell? ⟨gr, 1, none⟩ = some (.int .i64 p) ∧ w.cell? ⟨gr, 2, none⟩ = some (.int .i64 t) ∧ w.cell? ⟨gr, 3, none⟩ = some (.int .i64 f) ∧ w.cell? ⟨gr, 4, none⟩ = some (.int .i64 q) ∧ w.frozen? ⟨gr, 1, none⟩ = false ∧ w.frozen? ⟨gr, 2, none⟩ = false ∧ w.frozen? ⟨gr, 3, none⟩ = false ∧ w.frozen? ⟨gr, 4, none⟩ = false := by
  refine ⟨?_, ?_, ?_, ?_, ?_, frozen_of_row w gr 1 _ _ h, frozen_of_row w gr 2 _ _ h, frozen_of_row w gr 3 _ _ h, frozen_of_row w gr 4 _ _ h⟩ <;> (unfold Rf at h; simp [World.cell?, h])

theorem Rf.lt {w : World} {gr : Nat} {bv : Value} {p t f q : Int} (h : Rf w gr bv p t f q) : gr < w.heap.size := by
  unfold Rf at h
  exact (Array.getElem?_eq_some_iff.1 h).1

theorem Rf.setAt {w : World} {gr : Nat} {bv : Value} {p t f q : Int} (h : Rf w gr bv p t f q) (x : Int) : Rf (w.setCell ⟨gr, 1, none⟩ (.int .i64 x)) gr bv x t f q := by
  unfold Rf at h ⊢
  rw [heap_setCell_same w gr 1 _ _ _ h]
  rfl
theorem Rf.setWt {w : World} {gr : Nat} {bv : Value} {p t f q : Int} (h : Rf w gr bv p t f q) (x : Int) : Rf (w.setCell ⟨gr, 2, none⟩ (.int .i64 x)) gr bv p x f q := by
  unfold Rf at h ⊢
  rw [heap_setCell_same w gr 2 _ _ _ h]
  rfl
theorem Rf.setF {w : World} {gr : Nat} {bv : Value} {p t f q : Int} (h : Rf w gr bv p t f q) (x : Int) : Rf (w.setCell ⟨gr, 3, none⟩ (.int .i64 x)) gr bv p t x q := by
  unfold Rf at h ⊢
  rw [heap_setCell_same w gr 3 _ _ _ h]
  rfl
theorem Rf.setQ {w : World} {gr : Nat} {bv : Value} {p t f q : Int} (h : Rf w gr bv p t f q) (x : Int) : Rf (w.setCell ⟨gr, 4, none⟩ (.int .i64 x)) gr bv p t f x := by
  unfold Rf at h ⊢
  rw [heap_setCell_same w gr 4 _ _ _ h]
  rfl
theorem Rf.drewN {w : World} {gr : Nat} {bv : Value} {p t f q : Int} (h : Rf w gr bv p t f q) (n : Nat) : Rf (w.drewN n) gr bv p t f q := by
  unfold Rf at h ⊢
  rw [← h]
  exact (below_drewN (Below.refl _ w) n).block gr (Array.getElem?_eq_some_iff.1 h).1
theorem Rf.beside {w w' : World} {gr g : Nat} {bv : Value} {p t f q : Int} (h : Rf w g bv p t f q) (hb : Beside gr w w') (hn : g ≠ gr) : Rf w' g bv p t f q := (hb.block g h.lt hn).trans h
theorem Rf.of_below {w w' : World} {gr : Nat} {bv : Value} {p t f q : Int} (h : Rf w gr bv p t f q) (hb : Below w.heap.size w w') : Rf w' gr bv p t f q := (hb.block gr h.lt).trans h

set_option maxRecDepth 100000 in
set_option maxHeartbeats 400000 in
theorem wrong_ok (gr : Nat) (bv : Value) (p t q e pl : Int) (w : World) (h : Rf w gr bv p t 0 q) :
    Calls Try.prog 67 #[.pointer (some ⟨gr, 0, none⟩), .int .i64 e, .int .i64 pl] w fun x w' => x = .returned (.tuple #[]) ∧ Rf w' gr bv p t e pl ∧ Beside gr w w' := by
  obtain ⟨c0, c1, c2, c3, c4, f1, f2, f3, f4⟩ := h.cells
  have HR := hide h
  clear h
  go_enter Try.func67, Try.ntmps67
  go_wp2_with fail
  go_end0
  exact ⟨rfl, ((unhide HR).setF _).setQ _, ((Beside.refl _ _).set).set⟩

set_option maxRecDepth 100000 in
set_option maxHeartbeats 400000 in
theorem heavier_bad (gr : Nat) (bv : Value) (p t n q pl : Int) (w : World) (h : Rf w gr bv p t 0 q) (ht : 0 ≤ t ∧ t ≤ 2048) (hn : 0 ≤ n ∧ n ≤ 140737488355328) (hc : 2048 < t + n) :
    Calls Try.prog 68 #[.pointer (some ⟨gr, 0, none⟩), .int .i64 n, .int .i64 pl] w fun x w' => x = .returned (.tuple #[]) ∧ Rf w' gr bv p (t + n) 42 pl ∧ Beside gr w w' := by
  obtain ⟨c0, c1, c2, c3, c4, f1, f2, f3, f4⟩ := h.cells
  have hw : IntKind.i64.wrap (t + n) = t + n := by rw [IntKind.wrap_i64]; omega
  have CW := hide (wrong_ok gr bv p (t + n) q 42 pl _ (h.setWt (t + n)))
  clear h
  go_enter Try.func68, Try.ntmps68
  go_wp2_with fail
  refine (unhide CW).mono ?_
  rintro x w1 ⟨rfl, r1, b1⟩
  go_wp2_with fail
  go_end0
  exact ⟨rfl, r1, ((Beside.refl _ _).set).trans b1⟩

set_option maxRecDepth 100000 in
set_option maxHeartbeats 400000 in
theorem heavier_ok (gr : Nat) (bv : Value) (p t n f q pl : Int) (w : World) (h : Rf w gr bv p t f q) (ht : 0 ≤ t ∧ t ≤ 2048) (hn : 0 ≤ n ∧ n ≤ 140737488355328) (hc : ¬ 2048 < t + n) :
    Calls Try.prog 68 #[.pointer (some ⟨gr, 0, none⟩), .int .i64 n, .int .i64 pl] w fun x w' => x = .returned (.tuple #[]) ∧ Rf w' gr bv p (t + n) f q ∧ Beside gr w w' := by
  obtain ⟨c0, c1, c2, c3, c4, f1, f2, f3, f4⟩ := h.cells
  have hw : IntKind.i64.wrap (t + n) = t + n := by rw [IntKind.wrap_i64]; omega
  have HR := hide h
  clear h
  go_enter Try.func68, Try.ntmps68
  go_wp2_with fail
  go_end0
  exact ⟨rfl, (unhide HR).setWt _, (Beside.refl _ _).set⟩

/-- how number ends -/
def ResNf (gr : Nat) (bv : Value) (a t : Int) (w : World) (r : Except (Int × Int) (Nat × Nat)) (e : Ending) (w' : World) : Prop :=
  match r with
  | .error p => e = .returned (.int .i64 0) ∧ Rf w' gr bv a t p.1 p.2 ∧ Beside gr w w'
  | .ok (n, a') => e = .returned (.int .i64 n) ∧ Rf w' gr bv a' t 0 0 ∧ Beside gr w w'

set_option maxRecDepth 100000 in
set_option maxHeartbeats 400000 in
theorem number_f_bad (gr : Nat) (ao : Option Addr) (len cap : Nat) (p t q k : Int) (zs : List Int) (w : World) (h : Rf w gr (.slice ao len cap) p t 0 0) (hS : Src w gr ao len cap zs) (n nx e : Int) (hr : uintAt zs p = (n, nx, e)) (he : ¬ e = 0) :
    Calls Try.prog 70 #[.pointer (some ⟨gr, 0, none⟩), .int .i64 q, .int .i64 k] w fun x w' => x = .returned (.int .i64 0) ∧ Rf w' gr (.slice ao len cap) p t 41 p ∧ Beside gr w w' := by
  obtain ⟨c0, c1, c2, c3, c4, f1, f2, f3, f4⟩ := h.cells
  have CI := fun k => hide (refUint_any ao len cap p zs (w.drewN k) (hS.drewN k).row hS.cap)
  rw [hr] at CI
  dsimp only at CI
  have CW := fun k => hide (wrong_ok gr _ p t 0 41 p _ (h.drewN k))
  clear h hr hS
  go_enter Try.func70, Try.ntmps70
  go_upto_region 1 with fail
  go_quiet ((go_at_call 24; exact Calls.quiet_of_same (unhide (CI _))))
  go_wp2_with fail
  refine (unhide (CW _)).mono ?_
  rintro x w1 ⟨rfl, r1, b1⟩
  go_wp2_with fail
  go_ret
  exact ⟨rfl, r1, ((Beside.refl _ _).drew _).trans b1⟩

set_option maxRecDepth 100000 in
set_option maxHeartbeats 400000 in
theorem number_f_most (gr : Nat) (ao : Option Addr) (len cap : Nat) (p t q k : Int) (zs : List Int) (w : World) (h : Rf w gr (.slice ao len cap) p t 0 0) (hS : Src w gr ao len cap zs) (n nx : Int) (hr : uintAt zs p = (n, nx, 0)) (hn : 2048 < n) :
    Calls Try.prog 70 #[.pointer (some ⟨gr, 0, none⟩), .int .i64 q, .int .i64 k] w fun x w' => x = .returned (.int .i64 0) ∧ Rf w' gr (.slice ao len cap) p t 42 q ∧ Beside gr w w' := by
  obtain ⟨c0, c1, c2, c3, c4, f1, f2, f3, f4⟩ := h.cells
  have CI := fun k => hide (refUint_any ao len cap p zs (w.drewN k) (hS.drewN k).row hS.cap)
  rw [hr] at CI
  dsimp only at CI
  have CW := fun k => hide (wrong_ok gr _ p t 0 42 q _ (h.drewN k))
  clear h hr hS
  go_enter Try.func70, Try.ntmps70
  go_upto_region 1 with fail
  go_quiet ((go_at_call 24; exact Calls.quiet_of_same (unhide (CI _))))
  go_wp2_with fail
  refine (unhide (CW _)).mono ?_
  rintro x w1 ⟨rfl, r1, b1⟩
  go_wp2_with fail
  go_ret
  exact ⟨rfl, r1, ((Beside.refl _ _).drew _).trans b1⟩

set_option maxRecDepth 100000 in
set_option maxHeartbeats 400000 in
theorem number_f_many (gr : Nat) (ao : Option Addr) (len cap : Nat) (p t q k m : Int) (zs : List Int) (w : World) (h : Rf w gr (.slice ao len cap) p t 0 0) (hS : Src w gr ao len cap zs) (ht : 0 ≤ t ∧ t ≤ 2048) (n nx : Int) (h0 : 0 ≤ n) (hr : uintAt zs p = (n, nx, 0)) (hn : ¬ 2048 < n) (hk : k * n = m) (hm : 0 ≤ m ∧ m ≤ 4096) (hc : 2048 - t < m) :
    Calls Try.prog 70 #[.pointer (some ⟨gr, 0, none⟩), .int .i64 q, .int .i64 k] w fun x w' => x = .returned (.int .i64 0) ∧ Rf w' gr (.slice ao len cap) p t 42 q ∧ Beside gr w w' := by
  obtain ⟨c0, c1, c2, c3, c4, f1, f2, f3, f4⟩ := h.cells
  have CI := fun k => hide (refUint_any ao len cap p zs (w.drewN k) (hS.drewN k).row hS.cap)
  rw [hr] at CI
  dsimp only at CI
  have CW := fun k => hide (wrong_ok gr _ p t 0 42 q _ (h.drewN k))
  have w1 : IntKind.i64.wrap n = n := by rw [IntKind.wrap_i64]; omega
  have w2 : IntKind.i64.wrap (k * n) = m := by rw [hk, IntKind.wrap_i64]; omega
  have w3 : IntKind.i64.wrap (2048 - t) = 2048 - t := by rw [IntKind.wrap_i64]; omega
  clear h hr hS hk hm
  go_enter Try.func70, Try.ntmps70
  go_upto_region 1 with fail
  go_quiet ((go_at_call 24; exact Calls.quiet_of_same (unhide (CI _))))
  go_wp2_with fail
  refine (unhide (CW _)).mono ?_
  rintro x w1 ⟨rfl, r1, b1⟩
  go_wp2_with fail
  go_ret
  exact ⟨rfl, r1, ((Beside.refl _ _).drew _).trans b1⟩

set_option maxRecDepth 100000 in
set_option maxHeartbeats 400000 in
theorem number_f_ok (gr : Nat) (ao : Option Addr) (len cap : Nat) (p t q k m : Int) (zs : List Int) (w : World) (h : Rf w gr (.slice ao len cap) p t 0 0) (hS : Src w gr ao len cap zs) (ht : 0 ≤ t ∧ t ≤ 2048) (n nx : Int) (h0 : 0 ≤ n) (hr : uintAt zs p = (n, nx, 0)) (hn : ¬ 2048 < n) (hk : k * n = m) (hm : 0 ≤ m ∧ m ≤ 4096) (hc : ¬ 2048 - t < m) :
    Calls Try.prog 70 #[.pointer (some ⟨gr, 0, none⟩), .int .i64 q, .int .i64 k] w fun x w' => x = .returned (.int .i64 n) ∧ Rf w' gr (.slice ao len cap) nx t 0 0 ∧ Beside gr w w' := by
  obtain ⟨c0, c1, c2, c3, c4, f1, f2, f3, f4⟩ := h.cells
  have CI := fun k => hide (refUint_any ao len cap p zs (w.drewN k) (hS.drewN k).row hS.cap)
  rw [hr] at CI
  dsimp only at CI
  have w1 : IntKind.i64.wrap n = n := by rw [IntKind.wrap_i64]; omega
  have w2 : IntKind.i64.wrap (k * n) = m := by rw [hk, IntKind.wrap_i64]; omega
  have w3 : IntKind.i64.wrap (2048 - t) = 2048 - t := by rw [IntKind.wrap_i64]; omega
  have HR := hide h
  clear h hr hS hk hm
  go_enter Try.func70, Try.ntmps70
  go_upto_region 1 with fail
  go_quiet ((go_at_call 24; exact Calls.quiet_of_same (unhide (CI _))))
  go_wp2_with fail
  go_ret
  exact ⟨rfl, ((unhide HR).drewN _).setAt _, ((Beside.refl _ _).drew _).set⟩

theorem number_f (zs : List Int) (q a t k gr : Nat) (ao : Option Addr) (len cap : Nat) (w : World) (h : Rf w gr (.slice ao len cap) a t 0 0) (hS : Src w gr ao len cap zs) (ht : t ≤ 2048) (hk : 1 ≤ k ∧ k ≤ 2) :
    Calls Try.prog 70 #[.pointer (some ⟨gr, 0, none⟩), .int .i64 q, .int .i64 k] w fun e w' => ResNf gr (.slice ao len cap) a t w (rdCnt zs q a t k) e w' := by
  have hdiv : ∀ n : Int, 0 ≤ n → ((2048 - (t : Int)).tdiv k < n ↔ 2048 - (t : Int) < (k : Int) * n) := fun n hn => by
    rw [Int.tdiv_eq_ediv_of_nonneg (by omega), Int.ediv_lt_iff_lt_mul (by omega), Int.mul_comm]
  have hnn : (uintAt zs a).2.2 = 0 → 0 ≤ (uintAt zs a).1 := fun h => by
    obtain ⟨_, _, _, _, _, _, _, _, h8⟩ := uint_form zs a hS.row.small h
    exact h8
  cases hu : uintAt zs a with
  | mk n r =>
    obtain ⟨nx, e⟩ := r
    rw [hu] at hnn
    dsimp only at hnn
    by_cases h0 : e = 0
    · subst h0
      obtain ⟨m, hm⟩ : ∃ m : Int, (k : Int) * n = m := ⟨_, rfl⟩
      have hn := hnn rfl
      by_cases h1 : 2048 < n
      · have hc : rdCnt zs q a t k = .error (42, (q : Int)) := by
          unfold rdCnt
          rw [hu]
          have h2 : 2048 - (t : Int) < (k : Int) * n := by
            have h3 : 1 * n ≤ (k : Int) * n := Int.mul_le_mul_of_nonneg_right (by omega) (by omega)
            omega
          rw [if_neg (by simp), if_pos ((hdiv n hn).2 h2)]
        rw [hc]
        exact number_f_most gr ao len cap a t q k zs w h hS n nx hu h1
      · have hm2 : 0 ≤ m ∧ m ≤ 4096 := by
          have h3 : (k : Int) * n ≤ 2 * n := Int.mul_le_mul_of_nonneg_right (by omega) (by omega)
          have h4 : 0 ≤ (k : Int) * n := Int.mul_nonneg (by omega) hn
          omega
        by_cases h2 : 2048 - (t : Int) < m
        · have hc : rdCnt zs q a t k = .error (42, (q : Int)) := by
            unfold rdCnt
            rw [hu]
            rw [if_neg (by simp), if_pos ((hdiv n hn).2 (by omega))]
          rw [hc]
          exact number_f_many gr ao len cap a t q k m zs w h hS (by omega) n nx hn hu h1 hm hm2 h2
        · have hc : rdCnt zs q a t k = .ok (n.toNat, nx.toNat) := by
            unfold rdCnt
            rw [hu]
            rw [if_neg (by simp), if_neg (fun h => h2 (by have := (hdiv n hn).1 h; omega))]
          rw [hc]
          obtain ⟨_, kk, ha, _, _, _, hx, _, _⟩ := uint_form zs a hS.row.small (by rw [hu])
          rw [hu] at hx
          dsimp only at hx
          have e1 : ((n.toNat : Nat) : Int) = n := Int.toNat_of_nonneg hn
          have e2 : ((nx.toNat : Nat) : Int) = nx := Int.toNat_of_nonneg (by omega)
          show Calls _ _ _ _ fun e w' => e = .returned (.int .i64 ((n.toNat : Nat) : Int)) ∧ Rf w' gr (.slice ao len cap) ((nx.toNat : Nat) : Int) t 0 0 ∧ Beside gr w w'
          rw [e1, e2]
          exact number_f_ok gr ao len cap a t q k m zs w h hS (by omega) n nx hn hu h1 hm hm2 h2
    · have hc : rdCnt zs q a t k = .error (41, (a : Int)) := by
        unfold rdCnt
        rw [hu]
        rw [if_pos (by simpa using h0)]
      rw [hc]
      exact number_f_bad gr ao len cap a t q k zs w h hS n nx e hu h0
end Go.Proofs.Ytfdnhpmldnmncaa

namespace Go.Proofs.Ytfdnhpmldnmncaa
open Go.RowKit

theorem next_far {need old : Nat} (h : old < need) : Builtin.nextslicecap need old ≤ need + need / 4 + 512 := by
  unfold Builtin.nextslicecap
  split
  · omega
  · split
    · omega
    · rw [growBy_four]
      repeat' split
      all_goals omega

theorem zero8 (k : Nat) : (Builtin.zeroCells (Value.int .u8 0).cells k).size = k := by
  rw [size_zeroCells]
  show k * 1 = k
  omega

/-- a row that was just made -/
theorem made8 (w : World) (base N cap : Nat) (A : Array Value) (ys : List Value) (hA : A.toList = ys) (hN : ys.length = N) (hge : N ≤ cap) (hcm : cap ≤ maxLen) (hbase : base ≤ w.heap.size) :
    (w.drew.alloc (.cells (A ++ Builtin.zeroCells (Value.int .u8 0).cells (cap - N)) 5)).ownsRow base 5 1 (.slice (some ⟨w.heap.size, 0, none⟩) N cap) N ys := by
  subst hA
  refine ⟨by omega, .inr ⟨w.heap.size, cap, _, rfl, hbase, heap_alloc_new w.drew _, hge, hcm, ?_, ?_⟩⟩
  · rw [Array.size_append, zero8]
    rw [Array.length_toList] at hN
    omega
  · rw [Array.toList_append, Nat.mul_one, ← hN]
    exact List.take_left

theorem made_grown (w : World) (A : Array Value) (t : TypeId) (row : Option Nat) : w.grownBy (w.drew.alloc (.cells A t)) row := ⟨rfl, rfl, rfl, by simp, fun k hk _ => heap_alloc_old w.drew _ hk⟩

theorem run_own8 (w : World) (ty : TypeId) (base n : Nat) (v : Value) (xs : List Value) (hown : w.ownsRow base 5 1 v n xs) (ad : Addr) (m c : Nat) (rs : List Int) (hl : rs.length = m) (hc : ∀ j u, (rs.map (Value.int .u8))[j]? = some u → w.cell? (ad.add j) = some u) (hbytes : n + m ≤ 140737489403904) (hbase : base ≤ w.heap.size) :
    ∃ v' w', (Builtin.append_ #[22, 22] ty #[v, .slice (some ad) m c]).run Try.prog w = .ok v' w' ∧ w'.ownsRow base 5 1 v' (n + m) (xs ++ rs.map (Value.int .u8)) ∧ w.grownBy w' v.ownBlock ∧ (v'.ownBlock = v.ownBlock ∨ v'.ownBlock = some w.heap.size) := by
  obtain ⟨i0, hi, hz0, hz1, hz2⟩ := info_parts info5
  have hrl : (rs.map (Value.int .u8)).length = m := by simp [hl]
  by_cases hs : n + m ≤ 140737488355328
  · obtain ⟨v', w', h1, h2, h3, _, h5⟩ := run_append_own_at (P := Try.prog) w base 22 ty 5 i0 (.int .u8 0) 1 1 Try.underlying22 hi hz0 hz1 hz2 rfl (by decide) v n _ hown ad m c (rs.map (Value.int .u8)) (by simp [hl]) hc (ints_oneCell _ _) (by unfold maxLen; omega) (by omega) hbase
    exact ⟨v', w', h1, h2, h3, h5⟩
  · have hxl := hown.1
    rw [Nat.mul_one] at hxl
    rcases hown.2 with ⟨rfl, rfl⟩ | ⟨g, cap, cur, rfl, hbg, hg, hnc, hcm, hcs, htake⟩
    · have hr := run_append_nil (P := Try.prog) w 22 ty 5 i0 (.int .u8 0) Try.underlying22 hi hz0 ad m c (rs.map (Value.int .u8)) (by rw [hz1, hrl, Nat.mul_one]) hc (by omega) (by omega) (by rw [hz2]; omega)
      obtain rfl : xs = [] := List.eq_nil_of_length_eq_zero hxl
      simp only [Nat.zero_add, List.nil_append]
      exact ⟨_, _, hr, made8 w base m _ _ _ rfl hrl (grownCap_ge w m 0 5) (grownCap_le_maxLen w m 0 5 (by unfold maxLen; omega)) hbase, made_grown _ _ _ _, Or.inr rfl⟩
    · by_cases hroom : n + m ≤ cap
      · have hr := run_append_room (P := Try.prog) w 22 ty 5 i0 Try.underlying22 hi g n cap cur hg ad m c (rs.map (Value.int .u8)) (by rw [hz1, hrl, Nat.mul_one]) hc (ints_oneCell _ _) hroom (by rw [hz1, hrl]; omega)
        rw [hz1, Nat.mul_one, hrl] at hr
        rw [Nat.mul_one] at htake
        refine ⟨_, _, hr, ⟨by rw [List.length_append, hxl, hrl, Nat.mul_one], .inr ⟨g, cap, _, rfl, hbg, setRow_heap w g cur _ 5 _ hg, hroom, hcm, ?_, ?_⟩⟩, ⟨rfl, rfl, rfl, by simp, fun k _ hk => setRow_other w g k _ (fun e => hk (by simp [Value.ownBlock, e]))⟩, Or.inl rfl⟩
        · have hcl : cur.toList.length = cur.size := Array.length_toList
          simp only [List.size_toArray, List.length_append, List.length_take, List.length_drop, hrl]
          omega
        · rw [htake, Nat.mul_one]
          exact List.take_left' (by rw [List.length_append, hxl, hrl])
      · have hr := run_append_grow (P := Try.prog) w 22 ty 5 i0 (.int .u8 0) Try.underlying22 hi hz0 ⟨g, 0, none⟩ n cap xs (by rw [hz1, hxl, Nat.mul_one]) (hown.cells (g := g) rfl) ad m c (rs.map (Value.int .u8)) (by rw [hz1, hrl, Nat.mul_one]) hc (by omega) (by omega) (by have := next_far (need := n + m) (old := cap) (by omega); rw [hz2]; omega)
        exact ⟨_, _, hr, made8 w base (n + m) _ _ _ (by simp) (by rw [List.length_append, hxl, hrl]) (grownCap_ge w (n + m) cap 5) (grownCap_le_maxLen w (n + m) cap 5 (by unfold maxLen; omega)) hbase, made_grown _ _ _ _, Or.inr rfl⟩

open Lib in
theorem run_str8 (w : World) (ty : TypeId) (base g n cap : Nat) (xs : List Value) (hown : w.ownsRow base 5 1 (.slice (some ⟨g, 0, none⟩) n cap) n xs) (hn : 0 < n) (s : ByteArray) (hbytes : n + s.size ≤ 140737489403904) (hbase : base ≤ w.heap.size) :
    ∃ v' w', (Builtin.append_ #[22, 9] ty #[.slice (some ⟨g, 0, none⟩) n cap, .string s]).run Try.prog w = .ok v' w' ∧ w'.ownsRow base 5 1 v' (n + s.size) (xs ++ strCells s) ∧ w.grownBy w' (some g) := by
  obtain ⟨i0, hi, hz0, hz1, hz2⟩ := info_parts info5
  by_cases hs : n + s.size ≤ 140737488355328
  · obtain ⟨v', w', h1, h2, h3, _⟩ := run_append_own_string (P := Try.prog) w base 22 9 ty 5 i0 Try.underlying22 Try.underlying9 hi hz0 hz1 hz2 _ n xs hown s (by unfold maxLen; omega) hs hbase
    exact ⟨v', w', h1, h2, h3⟩
  · have hxl := hown.1
    rw [Nat.mul_one] at hxl
    have hsl := strCells_length s
    rcases hown.2 with ⟨_, h0⟩ | ⟨g', cap', cur, he, hbg, hg, hnc, hcm, hcs, htake⟩
    · omega
    simp only [Value.slice.injEq, Option.some.injEq, Addr.mk.injEq, true_and, and_true] at he
    obtain ⟨rfl, rfl⟩ := he
    rw [Nat.mul_one] at htake
    by_cases hroom : n + s.size ≤ cap
    · have hr := run_append_room_string (P := Try.prog) w 22 9 ty 5 i0 Try.underlying22 Try.underlying9 hi hz1 g n cap cur hg s hroom (by omega)
      refine ⟨_, _, hr, ⟨by rw [List.length_append, hxl, hsl, Nat.mul_one], .inr ⟨g, cap, _, rfl, hbg, setRow_heap w g cur _ 5 _ hg, hroom, hcm, ?_, ?_⟩⟩, ⟨rfl, rfl, rfl, by simp, fun k _ hk => setRow_other w g k _ (fun e => hk (by simp [e]))⟩⟩
      · have hcl : cur.toList.length = cur.size := Array.length_toList
        simp only [List.size_toArray, List.length_append, List.length_take, List.length_drop, hsl]
        omega
      · rw [htake, Nat.mul_one]
        exact List.take_left' (by rw [List.length_append, hxl, hsl])
    · have hr := run_append_grow_string (P := Try.prog) w 22 9 ty 5 i0 (.int .u8 0) Try.underlying22 Try.underlying9 hi hz0 ⟨g, 0, none⟩ n cap xs (by rw [hz1, hxl, Nat.mul_one]) (hown.cells (g := g) rfl) s (by omega) (by omega) (by have := next_far (need := n + s.size) (old := cap) (by omega); rw [hz2]; omega)
      exact ⟨_, _, hr, made8 w base (n + s.size) _ _ _ (by simp) (by rw [List.length_append, hxl, hsl]) (grownCap_ge w (n + s.size) cap 5) (grownCap_le_maxLen w (n + s.size) cap 5 (by unfold maxLen; omega)) hbase, made_grown _ _ _ _⟩

/-- append(b, s...) onto a row of the call's own -/
theorem app_string8 {w : World} {ops : Array Oper} {rest : List Oper} {o : Oper} {a : Act} {Q : Exit → Act → World → Prop} (hgd : o.guard = none) (sl x : Operand)
    (ho : o.op = .call { callee := .builtin .append, args := #[sl, x], argTypes := #[22, 9] })
    (base g n cap : Nat) (xs : List Value) (hs : a.eval sl = .slice (some ⟨g, 0, none⟩) n cap) (hown : w.ownsRow base 5 1 (.slice (some ⟨g, 0, none⟩) n cap) n xs) (hn : 0 < n) (s : ByteArray) (hx : a.eval x = .string s)
    (hbytes : n + s.size ≤ 140737489403904) (hbase : base ≤ w.heap.size)
    (h : ∀ g' cap' w', base ≤ g' → w'.ownsRow base 5 1 (.slice (some ⟨g', 0, none⟩) (n + s.size) cap') (n + s.size) (xs ++ (nums s).map (Value.int .u8)) → w.grownBy w' (some g) → wpList Try.prog ops Q rest (a.put o.dst (.slice (some ⟨g', 0, none⟩) (n + s.size) cap')) w') :
    wpList Try.prog ops Q (o :: rest) a w := by
  refine wpList_plain hgd fun K hK => ?_
  obtain ⟨v', w', hrun, hown', hgrow⟩ := run_str8 w o.type base g n cap xs hown hn s hbytes hbase
  obtain ⟨g', cap', hv, hb⟩ := own_form hown' (by omega)
  rw [nums_cells] at hown'
  subst hv
  unfold Oper.wp
  simp only [execOp, ho, resolve, invoke, builtin, Sem.run_bind, Sem.run_pure, Result.andThen_ok, List.map_toArray, List.map_cons, List.map_nil, hs, hx, hrun]
  exact hK _ _ (h g' cap' w' hb hown' hgrow)
end Go.Proofs.Ytfdnhpmldnmncaa

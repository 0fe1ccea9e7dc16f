/-
  The document's own reader of wire: its small steps, with the fault that it keeps; conditions: the weight so far is at most 2048, the form's own reach.
-/
import Derived.Test.YtjkladljhbcelaaR14
import Derived.Test.YtjkladljhbcelaaR11
import Derived.Test.YtjkladljhbcelaaWRdS
import Derived.Test.YtjkladljhbcelaaRefs
namespace Go.Proofs.Ytjkladljhbcelaa
open Go.RowKit
set_option linter.unusedVariables false
set_option linter.unusedSimpArgs false

/-- the document's reader: its bytes, its place, the weight so far, the first fault and its place -/
def Rf (w : World) (gr : Nat) (bv : Value) (p t f q : Int) : Prop := w.heap[gr]? = some (.cells #[bv, .int .i64 p, .int .i64 t, .int .i64 f, .int .i64 q] 59 (0, 0))

theorem Rf.cells {w : World} {gr : Nat} {bv : Value} {p t f q : Int} (h : Rf w gr bv p t f q) :
    w.cell? ⟨gr, 0, none⟩ = some bv ∧ w.cell? ⟨gr, 1, none⟩ = some (.int .i64 p) ∧ w.cell? ⟨gr, 2, none⟩ = some (.int .i64 t) ∧ w.cell? ⟨gr, 3, none⟩ = some (.int .i64 f) ∧ w.cell? ⟨gr, 4, none⟩ = some (.int .i64 q) ∧ w.frozen? ⟨gr, 1, none⟩ = false ∧ w.frozen? ⟨gr, 2, none⟩ = false ∧ w.frozen? ⟨gr, 3, none⟩ = false ∧ w.frozen? ⟨gr, 4, none⟩ = false := by
  refine ⟨?_, ?_, ?_, ?_, ?_, frozen_of_row w gr 1 _ _ h, frozen_of_row w gr 2 _ _ h, frozen_of_row w gr 3 _ _ h, frozen_of_row w gr 4 _ _ h⟩ <;> (unfold Rf at h; simp [World.cell?, h])

theorem Rf.lt {w : World} {gr : Nat} {bv : Value} {p t f q : Int} (h : Rf w gr bv p t f q) : gr < w.heap.size := by
  unfold Rf at h
  exact (Array.getElem?_eq_some_iff.1 h).1

theorem Rf.setAt {w : World} {gr : Nat} {bv : Value} {p t f q : Int} (h : Rf w gr bv p t f q) (x : Int) : Rf (w.setCell ⟨gr, 1, none⟩ (.int .i64 x)) gr bv x t f q := by
  unfold Rf at h ⊢
  rw [heap_setCell_same w gr 1 _ _ _ h]
  rfl
theorem Rf.setWt {w : World} {gr : Nat} {bv : Value} {p t f q : Int} (h : Rf w gr bv p t f q) (x : Int) : Rf (w.setCell ⟨gr, 2, none⟩ (.int .i64 x)) gr bv p x f q := by
  unfold Rf at h ⊢
  rw [heap_setCell_same w gr 2 _ _ _ h]
  rfl
theorem Rf.setF {w : World} {gr : Nat} {bv : Value} {p t f q : Int} (h : Rf w gr bv p t f q) (x : Int) : Rf (w.setCell ⟨gr, 3, none⟩ (.int .i64 x)) gr bv p t x q := by
  unfold Rf at h ⊢
  rw [heap_setCell_same w gr 3 _ _ _ h]
  rfl
theorem Rf.setQ {w : World} {gr : Nat} {bv : Value} {p t f q : Int} (h : Rf w gr bv p t f q) (x : Int) : Rf (w.setCell ⟨gr, 4, none⟩ (.int .i64 x)) gr bv p t f x := by
  unfold Rf at h ⊢
  rw [heap_setCell_same w gr 4 _ _ _ h]
  rfl
theorem Rf.drewN {w : World} {gr : Nat} {bv : Value} {p t f q : Int} (h : Rf w gr bv p t f q) (n : Nat) : Rf (w.drewN n) gr bv p t f q := by
  unfold Rf at h ⊢
  rw [← h]
  exact (below_drewN (Below.refl _ w) n).block gr (Array.getElem?_eq_some_iff.1 h).1
theorem Rf.beside {w w' : World} {gr g : Nat} {bv : Value} {p t f q : Int} (h : Rf w g bv p t f q) (hb : Beside gr w w') (hn : g ≠ gr) : Rf w' g bv p t f q := (hb.block g h.lt hn).trans h
theorem Rf.of_below {w w' : World} {gr : Nat} {bv : Value} {p t f q : Int} (h : Rf w gr bv p t f q) (hb : Below w.heap.size w w') : Rf w' gr bv p t f q := (hb.block gr h.lt).trans h

set_option maxRecDepth 100000 in
set_option maxHeartbeats 400000 in
theorem wrong_ok (gr : Nat) (bv : Value) (p t q e pl : Int) (w : World) (h : Rf w gr bv p t 0 q) :
    Calls Try.prog 39 #[.pointer (some ⟨gr, 0, none⟩), .int .i64 e, .int .i64 pl] w fun x w' => x = .returned (.tuple #[]) ∧ Rf w' gr bv p t e pl ∧ Beside gr w w' := by
  obtain ⟨c0, c1, c2, c3, c4, f1, f2, f3, f4⟩ := h.cells
  have HR := hide h
  clear h
  go_enter Try.func39, Try.ntmps39
  go_wp2_with fail
  go_end0
  exact ⟨rfl, ((unhide HR).setF _).setQ _, ((Beside.refl _ _).set).set⟩

set_option maxRecDepth 100000 in
set_option maxHeartbeats 400000 in
theorem heavier_bad (gr : Nat) (bv : Value) (p t n q pl : Int) (w : World) (h : Rf w gr bv p t 0 q) (ht : 0 ≤ t ∧ t ≤ 2048) (hn : 0 ≤ n ∧ n ≤ 140737488355328) (hc : 2048 < t + n) :
    Calls Try.prog 40 #[.pointer (some ⟨gr, 0, none⟩), .int .i64 n, .int .i64 pl] w fun x w' => x = .returned (.tuple #[]) ∧ Rf w' gr bv p (t + n) 42 pl ∧ Beside gr w w' := by
  obtain ⟨c0, c1, c2, c3, c4, f1, f2, f3, f4⟩ := h.cells
  have hw : IntKind.i64.wrap (t + n) = t + n := by rw [IntKind.wrap_i64]; omega
  have CW := hide (wrong_ok gr bv p (t + n) q 42 pl _ (h.setWt (t + n)))
  clear h
  go_enter Try.func40, Try.ntmps40
  go_wp2_with fail
  refine (unhide CW).mono ?_
  rintro x w1 ⟨rfl, r1, b1⟩
  go_wp2_with fail
  go_end0
  exact ⟨rfl, r1, ((Beside.refl _ _).set).trans b1⟩

set_option maxRecDepth 100000 in
set_option maxHeartbeats 400000 in
theorem heavier_ok (gr : Nat) (bv : Value) (p t n f q pl : Int) (w : World) (h : Rf w gr bv p t f q) (ht : 0 ≤ t ∧ t ≤ 2048) (hn : 0 ≤ n ∧ n ≤ 140737488355328) (hc : ¬ 2048 < t + n) :
    Calls Try.prog 40 #[.pointer (some ⟨gr, 0, none⟩), .int .i64 n, .int .i64 pl] w fun x w' => x = .returned (.tuple #[]) ∧ Rf w' gr bv p (t + n) f q ∧ Beside gr w w' := by
  obtain ⟨c0, c1, c2, c3, c4, f1, f2, f3, f4⟩ := h.cells
  have hw : IntKind.i64.wrap (t + n) = t + n := by rw [IntKind.wrap_i64]; omega
  have HR := hide h
  clear h
  go_enter Try.func40, Try.ntmps40
  go_wp2_with fail
  go_end0
  exact ⟨rfl, (unhide HR).setWt _, (Beside.refl _ _).set⟩

/-- how number ends -/
def ResNf (gr : Nat) (bv : Value) (a t : Int) (w : World) (r : Except (Int × Int) (Nat × Nat)) (e : Ending) (w' : World) : Prop :=
  match r with
  | .error p => e = .returned (.int .i64 0) ∧ Rf w' gr bv a t p.1 p.2 ∧ Beside gr w w'
  | .ok (n, a') => e = .returned (.int .i64 n) ∧ Rf w' gr bv a' t 0 0 ∧ Beside gr w w'

set_option maxRecDepth 100000 in
set_option maxHeartbeats 400000 in
theorem number_f_bad (gr : Nat) (ao : Option Addr) (len cap : Nat) (p t q k : Int) (zs : List Int) (w : World) (h : Rf w gr (.slice ao len cap) p t 0 0) (hS : Src w gr ao len cap zs) (n nx e : Int) (hr : uintAt zs p = (n, nx, e)) (he : ¬ e = 0) :
    Calls Try.prog 42 #[.pointer (some ⟨gr, 0, none⟩), .int .i64 q, .int .i64 k] w fun x w' => x = .returned (.int .i64 0) ∧ Rf w' gr (.slice ao len cap) p t 41 p ∧ Beside gr w w' := by
  obtain ⟨c0, c1, c2, c3, c4, f1, f2, f3, f4⟩ := h.cells
  have CI := fun k => hide (refUint_any ao len cap p zs (w.drewN k) (hS.drewN k).row hS.cap)
  rw [hr] at CI
  dsimp only at CI
  have CW := fun k => hide (wrong_ok gr _ p t 0 41 p _ (h.drewN k))
  clear h hr hS
  go_enter Try.func42, Try.ntmps42
  go_upto_region 1 with fail
  go_quiet ((go_at_call 13; exact Calls.quiet_of_same (unhide (CI _))))
  go_wp2_with fail
  refine (unhide (CW _)).mono ?_
  rintro x w1 ⟨rfl, r1, b1⟩
  go_wp2_with fail
  go_ret
  exact ⟨rfl, r1, ((Beside.refl _ _).drew _).trans b1⟩

set_option maxRecDepth 100000 in
set_option maxHeartbeats 400000 in
theorem number_f_most (gr : Nat) (ao : Option Addr) (len cap : Nat) (p t q k : Int) (zs : List Int) (w : World) (h : Rf w gr (.slice ao len cap) p t 0 0) (hS : Src w gr ao len cap zs) (n nx : Int) (hr : uintAt zs p = (n, nx, 0)) (hn : 2048 < n) :
    Calls Try.prog 42 #[.pointer (some ⟨gr, 0, none⟩), .int .i64 q, .int .i64 k] w fun x w' => x = .returned (.int .i64 0) ∧ Rf w' gr (.slice ao len cap) p t 42 q ∧ Beside gr w w' := by
  obtain ⟨c0, c1, c2, c3, c4, f1, f2, f3, f4⟩ := h.cells
  have CI := fun k => hide (refUint_any ao len cap p zs (w.drewN k) (hS.drewN k).row hS.cap)
  rw [hr] at CI
  dsimp only at CI
  have CW := fun k => hide (wrong_ok gr _ p t 0 42 q _ (h.drewN k))
  clear h hr hS
  go_enter Try.func42, Try.ntmps42
  go_upto_region 1 with fail
  go_quiet ((go_at_call 13; exact Calls.quiet_of_same (unhide (CI _))))
  go_wp2_with fail
  refine (unhide (CW _)).mono ?_
  rintro x w1 ⟨rfl, r1, b1⟩
  go_wp2_with fail
  go_ret
  exact ⟨rfl, r1, ((Beside.refl _ _).drew _).trans b1⟩

set_option maxRecDepth 100000 in
set_option maxHeartbeats 400000 in
theorem number_f_many (gr : Nat) (ao : Option Addr) (len cap : Nat) (p t q k m : Int) (zs : List Int) (w : World) (h : Rf w gr (.slice ao len cap) p t 0 0) (hS : Src w gr ao len cap zs) (ht : 0 ≤ t ∧ t ≤ 2048) (n nx : Int) (h0 : 0 ≤ n) (hr : uintAt zs p = (n, nx, 0)) (hn : ¬ 2048 < n) (hk : k * n = m) (hm : 0 ≤ m ∧ m ≤ 4096) (hc : 2048 - t < m) :
    Calls Try.prog 42 #[.pointer (some ⟨gr, 0, none⟩), .int .i64 q, .int .i64 k] w fun x w' => x = .returned (.int .i64 0) ∧ Rf w' gr (.slice ao len cap) p t 42 q ∧ Beside gr w w' := by
  obtain ⟨c0, c1, c2, c3, c4, f1, f2, f3, f4⟩ := h.cells
  have CI := fun k => hide (refUint_any ao len cap p zs (w.drewN k) (hS.drewN k).row hS.cap)
  rw [hr] at CI
  dsimp only at CI
  have CW := fun k => hide (wrong_ok gr _ p t 0 42 q _ (h.drewN k))
  have w1 : IntKind.i64.wrap n = n := by rw [IntKind.wrap_i64]; omega
  have w2 : IntKind.i64.wrap (k * n) = m := by rw [hk, IntKind.wrap_i64]; omega
  have w3 : IntKind.i64.wrap (2048 - t) = 2048 - t := by rw [IntKind.wrap_i64]; omega
  clear h hr hS hk hm
  go_enter Try.func42, Try.ntmps42
  go_upto_region 1 with fail
  go_quiet ((go_at_call 13; exact Calls.quiet_of_same (unhide (CI _))))
  go_wp2_with fail
  refine (unhide (CW _)).mono ?_
  rintro x w1 ⟨rfl, r1, b1⟩
  go_wp2_with fail
  go_ret
  exact ⟨rfl, r1, ((Beside.refl _ _).drew _).trans b1⟩

set_option maxRecDepth 100000 in
set_option maxHeartbeats 400000 in
theorem number_f_ok (gr : Nat) (ao : Option Addr) (len cap : Nat) (p t q k m : Int) (zs : List Int) (w : World) (h : Rf w gr (.slice ao len cap) p t 0 0) (hS : Src w gr ao len cap zs) (ht : 0 ≤ t ∧ t ≤ 2048) (n nx : Int) (h0 : 0 ≤ n) (hr : uintAt zs p = (n, nx, 0)) (hn : ¬ 2048 < n) (hk : k * n = m) (hm : 0 ≤ m ∧ m ≤ 4096) (hc : ¬ 2048 - t < m) :
    Calls Try.prog 42 #[.pointer (some ⟨gr, 0, none⟩), .int .i64 q, .int .i64 k] w fun x w' => x = .returned (.int .i64 n) ∧ Rf w' gr (.slice ao len cap) nx t 0 0 ∧ Beside gr w w' := by
  obtain ⟨c0, c1, c2, c3, c4, f1, f2, f3, f4⟩ := h.cells
  have CI := fun k => hide (refUint_any ao len cap p zs (w.drewN k) (hS.drewN k).row hS.cap)
  rw [hr] at CI
  dsimp only at CI
  have w1 : IntKind.i64.wrap n = n := by rw [IntKind.wrap_i64]; omega
  have w2 : IntKind.i64.wrap (k * n) = m := by rw [hk, IntKind.wrap_i64]; omega
  have w3 : IntKind.i64.wrap (2048 - t) = 2048 - t := by rw [IntKind.wrap_i64]; omega
  have HR := hide h
  clear h hr hS hk hm
  go_enter Try.func42, Try.ntmps42
  go_upto_region 1 with fail
  go_quiet ((go_at_call 13; exact Calls.quiet_of_same (unhide (CI _))))
  go_wp2_with fail
  go_ret
  exact ⟨rfl, ((unhide HR).drewN _).setAt _, ((Beside.refl _ _).drew _).set⟩

theorem number_f (zs : List Int) (q a t k gr : Nat) (ao : Option Addr) (len cap : Nat) (w : World) (h : Rf w gr (.slice ao len cap) a t 0 0) (hS : Src w gr ao len cap zs) (ht : t ≤ 2048) (hk : 1 ≤ k ∧ k ≤ 2) :
    Calls Try.prog 42 #[.pointer (some ⟨gr, 0, none⟩), .int .i64 q, .int .i64 k] w fun e w' => ResNf gr (.slice ao len cap) a t w (rdCnt zs q a t k) e w' := by
  have hdiv : ∀ n : Int, 0 ≤ n → ((2048 - (t : Int)).tdiv k < n ↔ 2048 - (t : Int) < (k : Int) * n) := fun n hn => by
    rw [Int.tdiv_eq_ediv_of_nonneg (by omega), Int.ediv_lt_iff_lt_mul (by omega), Int.mul_comm]
  have hnn : (uintAt zs a).2.2 = 0 → 0 ≤ (uintAt zs a).1 := fun h => by
    obtain ⟨_, _, _, _, _, _, _, _, h8⟩ := uint_form zs a hS.row.small h
    exact h8
  cases hu : uintAt zs a with
  | mk n r =>
    obtain ⟨nx, e⟩ := r
    rw [hu] at hnn
    dsimp only at hnn
    by_cases h0 : e = 0
    · subst h0
      obtain ⟨m, hm⟩ : ∃ m : Int, (k : Int) * n = m := ⟨_, rfl⟩
      have hn := hnn rfl
      by_cases h1 : 2048 < n
      · have hc : rdCnt zs q a t k = .error (42, (q : Int)) := by
          unfold rdCnt
          rw [hu]
          have h2 : 2048 - (t : Int) < (k : Int) * n := by
            have h3 : 1 * n ≤ (k : Int) * n := Int.mul_le_mul_of_nonneg_right (by omega) (by omega)
            omega
          rw [if_neg (by simp), if_pos ((hdiv n hn).2 h2)]
        rw [hc]
        exact number_f_most gr ao len cap a t q k zs w h hS n nx hu h1
      · have hm2 : 0 ≤ m ∧ m ≤ 4096 := by
          have h3 : (k : Int) * n ≤ 2 * n := Int.mul_le_mul_of_nonneg_right (by omega) (by omega)
          have h4 : 0 ≤ (k : Int) * n := Int.mul_nonneg (by omega) hn
          omega
        by_cases h2 : 2048 - (t : Int) < m
        · have hc : rdCnt zs q a t k = .error (42, (q : Int)) := by
            unfold rdCnt
            rw [hu]
            rw [if_neg (by simp), if_pos ((hdiv n hn).2 (by omega))]
          rw [hc]
          exact number_f_many gr ao len cap a t q k m zs w h hS (by omega) n nx hn hu h1 hm hm2 h2
        · have hc : rdCnt zs q a t k = .ok (n.toNat, nx.toNat) := by
            unfold rdCnt
            rw [hu]
            rw [if_neg (by simp), if_neg (fun h => h2 (by have := (hdiv n hn).1 h; omega))]
          rw [hc]
          obtain ⟨_, kk, ha, _, _, _, hx, _, _⟩ := uint_form zs a hS.row.small (by rw [hu])
          rw [hu] at hx
          dsimp only at hx
          have e1 : ((n.toNat : Nat) : Int) = n := Int.toNat_of_nonneg hn
          have e2 : ((nx.toNat : Nat) : Int) = nx := Int.toNat_of_nonneg (by omega)
          show Calls _ _ _ _ fun e w' => e = .returned (.int .i64 ((n.toNat : Nat) : Int)) ∧ Rf w' gr (.slice ao len cap) ((nx.toNat : Nat) : Int) t 0 0 ∧ Beside gr w w'
          rw [e1, e2]
          exact number_f_ok gr ao len cap a t q k m zs w h hS (by omega) n nx hn hu h1 hm hm2 h2
    · have hc : rdCnt zs q a t k = .error (41, (a : Int)) := by
        unfold rdCnt
        rw [hu]
        rw [if_pos (by simpa using h0)]
      rw [hc]
      exact number_f_bad gr ao len cap a t q k zs w h hS n nx e hu h0
end Go.Proofs.Ytjkladljhbcelaa
